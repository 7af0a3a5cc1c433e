import Derived.Test.YtddabafaejahbaaGreatDoorJReadI
import Derived.Test.YtddabafaejahbaaGreatDoorJRv3
import Derived.Test.YtddabafaejahbaaGreatDoorJRdA
import Derived.Test.YtddabafaejahbaaGreatDoorOrdM
import Derived.Test.YtddabafaejahbaaGreatDoorJTxt5A
import Derived.Test.YtddabafaejahbaaGreatDoorJIBg
import Derived.Deep.QuietTactic
import Derived.BigQuiet
/- impl.readEach by its contract. -/
namespace Go.Proofs.YtddabafaejahbaaGreatDoor
open Go.RowKit
set_option linter.unusedVariables false

/-- Words read one by one, each by its kind. -/
def eachS (o : ByteArray) : List Nat → List Wrd → ByteArray → ByteArray × Int
  | K :: ks, x :: ws, b => if (readWd (kc K) x o).2 ≠ 0 then (⟨#[]⟩, (readWd (kc K) x o).2) else eachS o ks ws (b ++ (readWd (kc K) x o).1)
  | _, _, b => (b, 0)
theorem each_bad {o b : ByteArray} {ks : List Nat} {ws : List Wrd} {K : Nat} {x : Wrd} (h : (readWd (kc K) x o).2 ≠ 0) : eachS o (K :: ks) (x :: ws) b = (⟨#[]⟩, (readWd (kc K) x o).2) := by rw [eachS, if_pos h]
theorem each_ok {o b : ByteArray} {ks : List Nat} {ws : List Wrd} {K : Nat} {x : Wrd} (h : (readWd (kc K) x o).2 = 0) : eachS o (K :: ks) (x :: ws) b = eachS o ks ws (b ++ (readWd (kc K) x o).1) := by rw [eachS, if_neg (by simpa using h)]
theorem each_nil {o b : ByteArray} {ws : List Wrd} : eachS o [] ws b = (b, 0) := by rw [eachS]; simp
theorem dropK {l : List Nat} {j K : Nat} (h : l[j]? = some K) : l.drop j = K :: l.drop (j + 1) := by
  have hl := List.getElem?_eq_some_iff.1 h
  rw [List.drop_eq_getElem_cons hl.1, hl.2]
theorem wsz_step {ws : List Wrd} {j : Nat} {x : Wrd} (h : ws[j]? = some x) : wsz (ws.take (j + 1)) = wsz (ws.take j) + x.1.size := by
  have hl := List.getElem?_eq_some_iff.1 h
  rw [List.take_succ_eq_append_getElem hl.1, hl.2, wsz_app, wsz_cons]
  rfl

theorem cells_cat (a b : ByteArray) : Lib.strCells (a ++ b) = Lib.strCells a ++ Lib.strCells b := by
  simp [Lib.strCells, ByteArray.data_append]

set_option maxRecDepth 100000 in
set_option maxHeartbeats 4000000 in
theorem readEach_any (ks : List Nat) (ws : List Wrd) (o : ByteArray) (gf cap : Nat) (v : Value) (w : World) (hf : RForms w gf ks) (hv : CRow w v ws.length 2 (wdVs ws)) (hn : ks.length = ws.length) (hnm : ws.length ≤ 300) (hok : ∀ K ∈ ks, kindOK K) (hz : wsz ws ≤ 1048576) (ho : o.size ≤ 1048576) (hs : Reads w) :
    Calls Tryz.prog 111 #[.slice (some ⟨gf, 0, none⟩) ks.length cap, v, .string o] w fun e w' => e = .returned (strV (eachS o ks ws ⟨#[]⟩)) ∧ Below w.heap.size w w' := by
  obtain ⟨R, HR⟩ : ∃ R, Hid (R = eachS o ks ws ⟨#[]⟩) := ⟨_, rfl⟩
  rw [← HR.out]
  have HST : Hid (R = eachS o (ks.drop 0) (ws.drop 0) ⟨#[]⟩) := HR
  obtain ⟨_, av, cv, rfl, hcap, hmx, hcc⟩ := hv
  have HNL := Nm.hide hn
  have hks : ks.length ≤ 300 := by omega
  have HF := Nm.hide hf
  have HCC := Nm.hide hcc
  have HOK := Nm.hide hok
  have HS := Nm.hide hs
  have hfb := Lib.fresh_isBuilder 103 5 w
  have hB0 := (Below.refl w.heap.size w).alloc (Nat.le_refl _) (.cells #[.pointer none, .slice none 0 0] 103)
  clear hf hcc hok hs HR hn
  go_enter Tryz.func111, Tryz.ntmps111
  go_wp2
  go_loopw [15] (fun i wr => ∃ (k : Nat) (b : ByteArray), k ≤ ks.length ∧ i = .int .i64 k ∧ Lib.IsBuilder 103 5 w.heap.size w.heap.size (Lib.strCells b) wr ∧ Hid (R = eachS o (ks.drop k) (ws.drop k) b) ∧ Hid (b.size ≤ wsz (ws.take k) + k * (o.size + 300)) ∧ Below w.heap.size w wr) (fun i _ => ks.length - (intOf i).toNat)
  case atStart => exact ⟨0, ⟨#[]⟩, Nat.zero_le _, rfl, hfb, HST, Nat.zero_le _, hB0⟩
  case round =>
    clear hfb hB0 HST
    obtain ⟨k, b, hk, rfl, hbu, HA, HL, hbel⟩ := hrel
    by_cases hlt : k < ks.length
    · have hn := HNL.out
      obtain ⟨x, hx⟩ : ∃ x, ws[k]? = some x := ⟨_, List.getElem?_eq_getElem (by omega)⟩
      obtain ⟨K, hK⟩ : ∃ K, ks[k]? = some K := ⟨_, List.getElem?_eq_getElem hlt⟩
      obtain ⟨bw, off, rfl, hcell⟩ := HCC.out (by omega)
      obtain ⟨fr, fx, fy, F2, u2, c1, c2, hv⟩ := HF.out k K hK
      have hxz := wsz_mem (List.mem_of_getElem? hx)
      obtain ⟨F0, cp, hfe, hF, hcall0⟩ := read_calls (x := x.1) (o := o) (q := x.2) hv (HOK.out K (List.mem_of_getElem? hK)) (by omega) (by unfold maxLen; omega) HS.out
      obtain ⟨rfl, rfl, rfl⟩ := Value.func.inj hfe
      have d0 := hcell _ _ (wdVs_at ws k 0 x hx (by decide))
      have d1 := hcell _ _ (wdVs_at ws k 1 x hx (by decide))
      have put : ∀ {g O : Nat} {z : Value}, w.cell? ⟨g, O, none⟩ = some z → wr.cell? ⟨g, O, none⟩ = some z := fun h => (hbel.cell (World.block_lt_of_cell? w _ h)).trans h
      replace c1 := put c1
      replace c2 := put c2
      replace d0 : wr.cell? ⟨bw, off + k * 2, none⟩ = some (.string x.1) := put d0
      replace d1 : wr.cell? ⟨bw, off + k * 2 + 1, none⟩ = some (.bool x.2) := put d1
      have hBo := (Below.refl wr.heap.size wr).alloc (Nat.le_refl _) (.cells #[.func (.func F0) #[] fy, .func F2 #[] u2] 113)
      have kO := blk_new wr #[.func (.func F0) #[] fy, .func F2 #[] u2] 113
      have hbD : Below w.heap.size w (wr.alloc (.cells #[.func (.func F0) #[] fy, .func F2 #[] u2] 113)).drew := (Nm.below_two hbel hBo).drew
      have huD := bu_below hbu (hBo.trans (Below.refl _ _).drew)
      have a0 := (blk_cell kO 0).trans rfl
      have a1 := (blk_cell kO 1).trans rfl
      have a2 := (hBo.cell (World.block_lt_of_cell? wr _ d0)).trans d0
      have a3 := (hBo.cell (World.block_lt_of_cell? wr _ d1)).trans d1
      have e0 : (wr.alloc (.cells #[.func (.func F0) #[] fy, .func F2 #[] u2] 113)).drew.cell? ⟨wr.heap.size, 0, none⟩ = some (.func (.func F0) #[] fy) := a0
      have e1 : (wr.alloc (.cells #[.func (.func F0) #[] fy, .func F2 #[] u2] 113)).drew.cell? ⟨wr.heap.size, 1, none⟩ = some (.func F2 #[] u2) := a1
      have e2 : (wr.alloc (.cells #[.func (.func F0) #[] fy, .func F2 #[] u2] 113)).drew.cell? ⟨bw, off + k * 2, none⟩ = some (.string x.1) := a2
      have e3 : (wr.alloc (.cells #[.func (.func F0) #[] fy, .func F2 #[] u2] 113)).drew.cell? ⟨bw, off + k * 2 + 1, none⟩ = some (.bool x.2) := a3
      have hcall := fun W hW => hcall0 W hW
      have hrz := readWd_size (kc K) x o
      obtain ⟨r, hr⟩ : ∃ r, r = readWd (kc K) x o := ⟨_, rfl⟩
      have hstep := HA.out
      rw [dropK hK, drop_at hx] at hstep
      have HOK2 : Hid (r.2 = 0 → R = eachS o (ks.drop (k + 1)) (ws.drop (k + 1)) (b ++ r.1)) := fun h => by rw [hstep, each_ok (by rw [← hr]; exact h), ← hr]
      have HBD : Hid (r.2 ≠ 0 → R = (⟨#[]⟩, r.2)) := fun h => by rw [hstep, each_bad (by rw [← hr]; exact h), ← hr]
      have HLE2 : Hid ((b ++ r.1).size ≤ wsz (ws.take (k + 1)) + (k + 1) * (o.size + 300)) := by
        show _ ≤ _
        have h1 := HL.out
        rw [wsz_step hx, ByteArray.size_append, Nat.add_mul, hr]
        omega
      have HLE : Hid (b.size + r.1.size ≤ 140737488355328) := by
        show _ ≤ _
        have h1 := HL.out
        have h2 := wsz_take ws k
        have h3 : k * (o.size + 300) ≤ 300 * (1048576 + 300) := Nat.mul_le_mul (by omega) (by omega)
        rw [hr]
        omega
      rw [← hr] at hcall
      clear hr hstep hrz HA HL
      have i1 : (0 : Int) ≤ (k : Int) := by omega
      have i2 : (k : Int) < (ws.length : Int) := by omega
      have i3 : (k : Int) < (ks.length : Int) := by omega
      have HX := Nm.hide hx
      have HK := Nm.hide hK
      clear hcell put hx hK hv hcall0 hn
      unfold strV at hcall
      rcases hF with rfl | rfl | rfl
      · go_wp2_with fail
        generalize hWa : wr.alloc (.cells #[.func (.func 157) #[] fy, .func F2 #[] u2] 113) = Wa at *
        refine wp_region_last (S := fun W => W.cell? ⟨wr.heap.size, 0, none⟩ = some (.func (.func 157) #[] fy) ∧ W.cell? ⟨wr.heap.size, 1, none⟩ = some (.func F2 #[] u2) ∧ W.cell? ⟨bw, off + k * 2, none⟩ = some (.string x.1) ∧ W.cell? ⟨bw, off + k * 2 + 1, none⟩ = some (.bool x.2)) (L := 1000) (by kernel_rfl) ⟨a0, a1, a2, a3⟩ (fun hH => ?_)
        refine wpAnyL_take (i := 0) (v := ?_) rfl (by kernel_rfl) (by kernel_rfl) (by kernel_rfl) (by kernel_rfl) (fun _ _ _ h => h) (Or.inl ⟨by rfl, ?_⟩) (by assumption) ?_
        rotate_left 1
        · (intro w hSw; obtain ⟨s0, s1, s2, s3⟩ := hSw; go_simp; try (with_reducible rfl))
        refine wpAnyL_take (i := 1) (v := ?_) rfl (by kernel_rfl) (by kernel_rfl) (by kernel_rfl) (by kernel_rfl) (fun _ _ _ h => h) (Or.inl ⟨by rfl, ?_⟩) (by assumption) ?_
        rotate_left 1
        · (intro w hSw; obtain ⟨s0, s1, s2, s3⟩ := hSw; go_simp; try (with_reducible rfl))
        refine wpAnyL_take (i := 2) (v := ?_) rfl (by kernel_rfl) (by kernel_rfl) (by kernel_rfl) (by kernel_rfl) (fun _ _ _ h => h) (Or.inl ⟨by rfl, ?_⟩) (by assumption) ?_
        rotate_left 1
        · (intro w hSw; obtain ⟨s0, s1, s2, s3⟩ := hSw; go_simp; try (with_reducible rfl))
        refine wpAnyL_take (i := 3) (v := ?_) rfl (by kernel_rfl) (by kernel_rfl) (by kernel_rfl) (by kernel_rfl) (fun _ _ _ h => h) (Or.inl ⟨by rfl, ?_⟩) (by assumption) ?_
        rotate_left 1
        · (intro w hSw; obtain ⟨s0, s1, s2, s3⟩ := hSw; go_simp; try (with_reducible rfl))
        refine wpAnyL_take (i := 4) (v := ?_) rfl (by kernel_rfl) (by kernel_rfl) (by kernel_rfl) (by kernel_rfl) (fun _ _ _ h => h) (Or.inl ⟨by rfl, ?_⟩) (by assumption) ?_
        rotate_left 1
        · (intro w hSw; obtain ⟨s0, s1, s2, s3⟩ := hSw; go_simp; try (with_reducible rfl))
        refine wpAnyL_take (i := 5) (v := ?_) rfl (by kernel_rfl) (by kernel_rfl) (by kernel_rfl) (by kernel_rfl) (fun _ _ _ h => h) (Or.inl ⟨by rfl, ?_⟩) (by assumption) ?_
        rotate_left 1
        · (intro w hSw; obtain ⟨s0, s1, s2, s3⟩ := hSw; go_simp; try (with_reducible rfl))
        refine wpAnyL_take (i := 6) (v := ?_) rfl (by kernel_rfl) (by kernel_rfl) (by kernel_rfl) (by kernel_rfl) (fun _ _ _ h => h) (Or.inl ⟨by rfl, ?_⟩) (by assumption) ?_
        rotate_left 1
        · (intro w hSw; obtain ⟨s0, s1, s2, s3⟩ := hSw; go_simp; try (with_reducible rfl))
        refine wpAnyL_one (i := 7) (by kernel_rfl) rfl (fun KQ hK' => ?_)
        go_simp
        refine (hcall _ hbD).mono ?_
        rintro e w2 ⟨rfl, hb2⟩
        have hu2 := bu_below huD hb2
        have hB2 := Nm.below_two hbD hb2
        have s0 := (hb2.cell (World.block_lt_of_cell? _ _ e0)).trans e0
        have s1 := (hb2.cell (World.block_lt_of_cell? _ _ e1)).trans e1
        have s2 := (hb2.cell (World.block_lt_of_cell? _ _ e2)).trans e2
        have s3 := (hb2.cell (World.block_lt_of_cell? _ _ e3)).trans e3
        clear hb2 huD hbD hcall e0 e1 e2 e3 a0 a1 a2 a3
        go_wp2_with fail
        refine hK'.out _ _ ⟨s0, s1, s2, s3⟩ (fun hH => ?_)
        clear hK' KQ
        refine wpAnyL_take (i := 8) (v := ?_) rfl (by kernel_rfl) (by kernel_rfl) (by kernel_rfl) (by kernel_rfl) (fun _ _ _ h => h) (Or.inl ⟨by rfl, ?_⟩) (by assumption) ?_
        rotate_left 1
        · (intro w hSw; obtain ⟨s0, s1, s2, s3⟩ := hSw; go_simp; try (with_reducible rfl))
        refine wpAnyL_take (i := 9) (v := ?_) rfl (by kernel_rfl) (by kernel_rfl) (by kernel_rfl) (by kernel_rfl) (fun _ _ _ h => h) (Or.inl ⟨by rfl, ?_⟩) (by assumption) ?_
        rotate_left 1
        · (intro w hSw; obtain ⟨s0, s1, s2, s3⟩ := hSw; go_simp; try (with_reducible rfl))
        refine wpAnyL_take (i := 10) (v := ?_) rfl (by kernel_rfl) (by kernel_rfl) (by kernel_rfl) (by kernel_rfl) (fun _ _ _ h => h) (Or.inl ⟨by rfl, ?_⟩) (by assumption) ?_
        rotate_left 1
        · (intro w hSw; obtain ⟨s0, s1, s2, s3⟩ := hSw; go_simp; try (with_reducible rfl))
        refine wpAnyL_take (i := 11) (v := ?_) rfl (by kernel_rfl) (by kernel_rfl) (by kernel_rfl) (by kernel_rfl) (fun _ _ _ h => h) (Or.inl ⟨by rfl, ?_⟩) (by assumption) ?_
        rotate_left 1
        · (intro w hSw; obtain ⟨s0, s1, s2, s3⟩ := hSw; go_simp; try (with_reducible rfl))
        refine wpAnyL_take (i := 12) (v := ?_) rfl (by kernel_rfl) (by kernel_rfl) (by kernel_rfl) (by kernel_rfl) (fun _ _ _ h => h) (Or.inl ⟨by rfl, ?_⟩) (by assumption) ?_
        rotate_left 1
        · (intro w hSw; obtain ⟨s0, s1, s2, s3⟩ := hSw; go_simp; try (with_reducible rfl))
        refine wpAnyL_done (by kernel_rfl) ?_
        clear hH s0 s1 s2 s3
        by_cases h0 : r.2 = 0
        · have d0' : (r.2 == 0) = true := by simpa using h0
          have HN := Nm.hide (HOK2.out h0)
          have hle := HLE.out
          have hsz2 := hB2.size
          go_wp2_with (go_at_call 52; refine (writeString_any _ _ _ r.1 _ hu2 (by rw [Lib.strCells_length]; omega) hsz2).mono ?_; rintro e w3 ⟨rfl, hu3, b3, hk3⟩)
          go_roundw
          case rel => exact ⟨k + 1, b ++ r.1, by omega, by go_num, .inr (by rw [cells_cat]; exact hu3), HN, HLE2, hB2.trans b3⟩
          case measure => simp [intOf]; omega
        · have d0' : (r.2 == 0) = false := by simpa using h0
          have HN := Nm.hide (HBD.out h0)
          go_wp2
          go_ret2
          refine ⟨?_, hB2⟩
          rw [HN.out]
          rfl
      · go_wp2_with fail
        generalize hWa : wr.alloc (.cells #[.func (.func 99) #[] fy, .func F2 #[] u2] 113) = Wa at *
        refine wp_region_last (S := fun W => W.cell? ⟨wr.heap.size, 0, none⟩ = some (.func (.func 99) #[] fy) ∧ W.cell? ⟨wr.heap.size, 1, none⟩ = some (.func F2 #[] u2) ∧ W.cell? ⟨bw, off + k * 2, none⟩ = some (.string x.1) ∧ W.cell? ⟨bw, off + k * 2 + 1, none⟩ = some (.bool x.2)) (L := 1000) (by kernel_rfl) ⟨a0, a1, a2, a3⟩ (fun hH => ?_)
        refine wpAnyL_take (i := 0) (v := ?_) rfl (by kernel_rfl) (by kernel_rfl) (by kernel_rfl) (by kernel_rfl) (fun _ _ _ h => h) (Or.inl ⟨by rfl, ?_⟩) (by assumption) ?_
        rotate_left 1
        · (intro w hSw; obtain ⟨s0, s1, s2, s3⟩ := hSw; go_simp; try (with_reducible rfl))
        refine wpAnyL_take (i := 1) (v := ?_) rfl (by kernel_rfl) (by kernel_rfl) (by kernel_rfl) (by kernel_rfl) (fun _ _ _ h => h) (Or.inl ⟨by rfl, ?_⟩) (by assumption) ?_
        rotate_left 1
        · (intro w hSw; obtain ⟨s0, s1, s2, s3⟩ := hSw; go_simp; try (with_reducible rfl))
        refine wpAnyL_take (i := 2) (v := ?_) rfl (by kernel_rfl) (by kernel_rfl) (by kernel_rfl) (by kernel_rfl) (fun _ _ _ h => h) (Or.inl ⟨by rfl, ?_⟩) (by assumption) ?_
        rotate_left 1
        · (intro w hSw; obtain ⟨s0, s1, s2, s3⟩ := hSw; go_simp; try (with_reducible rfl))
        refine wpAnyL_take (i := 3) (v := ?_) rfl (by kernel_rfl) (by kernel_rfl) (by kernel_rfl) (by kernel_rfl) (fun _ _ _ h => h) (Or.inl ⟨by rfl, ?_⟩) (by assumption) ?_
        rotate_left 1
        · (intro w hSw; obtain ⟨s0, s1, s2, s3⟩ := hSw; go_simp; try (with_reducible rfl))
        refine wpAnyL_take (i := 4) (v := ?_) rfl (by kernel_rfl) (by kernel_rfl) (by kernel_rfl) (by kernel_rfl) (fun _ _ _ h => h) (Or.inl ⟨by rfl, ?_⟩) (by assumption) ?_
        rotate_left 1
        · (intro w hSw; obtain ⟨s0, s1, s2, s3⟩ := hSw; go_simp; try (with_reducible rfl))
        refine wpAnyL_take (i := 5) (v := ?_) rfl (by kernel_rfl) (by kernel_rfl) (by kernel_rfl) (by kernel_rfl) (fun _ _ _ h => h) (Or.inl ⟨by rfl, ?_⟩) (by assumption) ?_
        rotate_left 1
        · (intro w hSw; obtain ⟨s0, s1, s2, s3⟩ := hSw; go_simp; try (with_reducible rfl))
        refine wpAnyL_take (i := 6) (v := ?_) rfl (by kernel_rfl) (by kernel_rfl) (by kernel_rfl) (by kernel_rfl) (fun _ _ _ h => h) (Or.inl ⟨by rfl, ?_⟩) (by assumption) ?_
        rotate_left 1
        · (intro w hSw; obtain ⟨s0, s1, s2, s3⟩ := hSw; go_simp; try (with_reducible rfl))
        refine wpAnyL_one (i := 7) (by kernel_rfl) rfl (fun KQ hK' => ?_)
        go_simp
        refine (hcall _ hbD).mono ?_
        rintro e w2 ⟨rfl, hb2⟩
        have hu2 := bu_below huD hb2
        have hB2 := Nm.below_two hbD hb2
        have s0 := (hb2.cell (World.block_lt_of_cell? _ _ e0)).trans e0
        have s1 := (hb2.cell (World.block_lt_of_cell? _ _ e1)).trans e1
        have s2 := (hb2.cell (World.block_lt_of_cell? _ _ e2)).trans e2
        have s3 := (hb2.cell (World.block_lt_of_cell? _ _ e3)).trans e3
        clear hb2 huD hbD hcall e0 e1 e2 e3 a0 a1 a2 a3
        go_wp2_with fail
        refine hK'.out _ _ ⟨s0, s1, s2, s3⟩ (fun hH => ?_)
        clear hK' KQ
        refine wpAnyL_take (i := 8) (v := ?_) rfl (by kernel_rfl) (by kernel_rfl) (by kernel_rfl) (by kernel_rfl) (fun _ _ _ h => h) (Or.inl ⟨by rfl, ?_⟩) (by assumption) ?_
        rotate_left 1
        · (intro w hSw; obtain ⟨s0, s1, s2, s3⟩ := hSw; go_simp; try (with_reducible rfl))
        refine wpAnyL_take (i := 9) (v := ?_) rfl (by kernel_rfl) (by kernel_rfl) (by kernel_rfl) (by kernel_rfl) (fun _ _ _ h => h) (Or.inl ⟨by rfl, ?_⟩) (by assumption) ?_
        rotate_left 1
        · (intro w hSw; obtain ⟨s0, s1, s2, s3⟩ := hSw; go_simp; try (with_reducible rfl))
        refine wpAnyL_take (i := 10) (v := ?_) rfl (by kernel_rfl) (by kernel_rfl) (by kernel_rfl) (by kernel_rfl) (fun _ _ _ h => h) (Or.inl ⟨by rfl, ?_⟩) (by assumption) ?_
        rotate_left 1
        · (intro w hSw; obtain ⟨s0, s1, s2, s3⟩ := hSw; go_simp; try (with_reducible rfl))
        refine wpAnyL_take (i := 11) (v := ?_) rfl (by kernel_rfl) (by kernel_rfl) (by kernel_rfl) (by kernel_rfl) (fun _ _ _ h => h) (Or.inl ⟨by rfl, ?_⟩) (by assumption) ?_
        rotate_left 1
        · (intro w hSw; obtain ⟨s0, s1, s2, s3⟩ := hSw; go_simp; try (with_reducible rfl))
        refine wpAnyL_take (i := 12) (v := ?_) rfl (by kernel_rfl) (by kernel_rfl) (by kernel_rfl) (by kernel_rfl) (fun _ _ _ h => h) (Or.inl ⟨by rfl, ?_⟩) (by assumption) ?_
        rotate_left 1
        · (intro w hSw; obtain ⟨s0, s1, s2, s3⟩ := hSw; go_simp; try (with_reducible rfl))
        refine wpAnyL_done (by kernel_rfl) ?_
        clear hH s0 s1 s2 s3
        by_cases h0 : r.2 = 0
        · have d0' : (r.2 == 0) = true := by simpa using h0
          have HN := Nm.hide (HOK2.out h0)
          have hle := HLE.out
          have hsz2 := hB2.size
          go_wp2_with (go_at_call 52; refine (writeString_any _ _ _ r.1 _ hu2 (by rw [Lib.strCells_length]; omega) hsz2).mono ?_; rintro e w3 ⟨rfl, hu3, b3, hk3⟩)
          go_roundw
          case rel => exact ⟨k + 1, b ++ r.1, by omega, by go_num, .inr (by rw [cells_cat]; exact hu3), HN, HLE2, hB2.trans b3⟩
          case measure => simp [intOf]; omega
        · have d0' : (r.2 == 0) = false := by simpa using h0
          have HN := Nm.hide (HBD.out h0)
          go_wp2
          go_ret2
          refine ⟨?_, hB2⟩
          rw [HN.out]
          rfl
      · go_wp2_with fail
        generalize hWa : wr.alloc (.cells #[.func (.func 127) #[] fy, .func F2 #[] u2] 113) = Wa at *
        refine wp_region_last (S := fun W => W.cell? ⟨wr.heap.size, 0, none⟩ = some (.func (.func 127) #[] fy) ∧ W.cell? ⟨wr.heap.size, 1, none⟩ = some (.func F2 #[] u2) ∧ W.cell? ⟨bw, off + k * 2, none⟩ = some (.string x.1) ∧ W.cell? ⟨bw, off + k * 2 + 1, none⟩ = some (.bool x.2)) (L := 1000) (by kernel_rfl) ⟨a0, a1, a2, a3⟩ (fun hH => ?_)
        refine wpAnyL_take (i := 0) (v := ?_) rfl (by kernel_rfl) (by kernel_rfl) (by kernel_rfl) (by kernel_rfl) (fun _ _ _ h => h) (Or.inl ⟨by rfl, ?_⟩) (by assumption) ?_
        rotate_left 1
        · (intro w hSw; obtain ⟨s0, s1, s2, s3⟩ := hSw; go_simp; try (with_reducible rfl))
        refine wpAnyL_take (i := 1) (v := ?_) rfl (by kernel_rfl) (by kernel_rfl) (by kernel_rfl) (by kernel_rfl) (fun _ _ _ h => h) (Or.inl ⟨by rfl, ?_⟩) (by assumption) ?_
        rotate_left 1
        · (intro w hSw; obtain ⟨s0, s1, s2, s3⟩ := hSw; go_simp; try (with_reducible rfl))
        refine wpAnyL_take (i := 2) (v := ?_) rfl (by kernel_rfl) (by kernel_rfl) (by kernel_rfl) (by kernel_rfl) (fun _ _ _ h => h) (Or.inl ⟨by rfl, ?_⟩) (by assumption) ?_
        rotate_left 1
        · (intro w hSw; obtain ⟨s0, s1, s2, s3⟩ := hSw; go_simp; try (with_reducible rfl))
        refine wpAnyL_take (i := 3) (v := ?_) rfl (by kernel_rfl) (by kernel_rfl) (by kernel_rfl) (by kernel_rfl) (fun _ _ _ h => h) (Or.inl ⟨by rfl, ?_⟩) (by assumption) ?_
        rotate_left 1
        · (intro w hSw; obtain ⟨s0, s1, s2, s3⟩ := hSw; go_simp; try (with_reducible rfl))
        refine wpAnyL_take (i := 4) (v := ?_) rfl (by kernel_rfl) (by kernel_rfl) (by kernel_rfl) (by kernel_rfl) (fun _ _ _ h => h) (Or.inl ⟨by rfl, ?_⟩) (by assumption) ?_
        rotate_left 1
        · (intro w hSw; obtain ⟨s0, s1, s2, s3⟩ := hSw; go_simp; try (with_reducible rfl))
        refine wpAnyL_take (i := 5) (v := ?_) rfl (by kernel_rfl) (by kernel_rfl) (by kernel_rfl) (by kernel_rfl) (fun _ _ _ h => h) (Or.inl ⟨by rfl, ?_⟩) (by assumption) ?_
        rotate_left 1
        · (intro w hSw; obtain ⟨s0, s1, s2, s3⟩ := hSw; go_simp; try (with_reducible rfl))
        refine wpAnyL_take (i := 6) (v := ?_) rfl (by kernel_rfl) (by kernel_rfl) (by kernel_rfl) (by kernel_rfl) (fun _ _ _ h => h) (Or.inl ⟨by rfl, ?_⟩) (by assumption) ?_
        rotate_left 1
        · (intro w hSw; obtain ⟨s0, s1, s2, s3⟩ := hSw; go_simp; try (with_reducible rfl))
        refine wpAnyL_one (i := 7) (by kernel_rfl) rfl (fun KQ hK' => ?_)
        go_simp
        refine (hcall _ hbD).mono ?_
        rintro e w2 ⟨rfl, hb2⟩
        have hu2 := bu_below huD hb2
        have hB2 := Nm.below_two hbD hb2
        have s0 := (hb2.cell (World.block_lt_of_cell? _ _ e0)).trans e0
        have s1 := (hb2.cell (World.block_lt_of_cell? _ _ e1)).trans e1
        have s2 := (hb2.cell (World.block_lt_of_cell? _ _ e2)).trans e2
        have s3 := (hb2.cell (World.block_lt_of_cell? _ _ e3)).trans e3
        clear hb2 huD hbD hcall e0 e1 e2 e3 a0 a1 a2 a3
        go_wp2_with fail
        refine hK'.out _ _ ⟨s0, s1, s2, s3⟩ (fun hH => ?_)
        clear hK' KQ
        refine wpAnyL_take (i := 8) (v := ?_) rfl (by kernel_rfl) (by kernel_rfl) (by kernel_rfl) (by kernel_rfl) (fun _ _ _ h => h) (Or.inl ⟨by rfl, ?_⟩) (by assumption) ?_
        rotate_left 1
        · (intro w hSw; obtain ⟨s0, s1, s2, s3⟩ := hSw; go_simp; try (with_reducible rfl))
        refine wpAnyL_take (i := 9) (v := ?_) rfl (by kernel_rfl) (by kernel_rfl) (by kernel_rfl) (by kernel_rfl) (fun _ _ _ h => h) (Or.inl ⟨by rfl, ?_⟩) (by assumption) ?_
        rotate_left 1
        · (intro w hSw; obtain ⟨s0, s1, s2, s3⟩ := hSw; go_simp; try (with_reducible rfl))
        refine wpAnyL_take (i := 10) (v := ?_) rfl (by kernel_rfl) (by kernel_rfl) (by kernel_rfl) (by kernel_rfl) (fun _ _ _ h => h) (Or.inl ⟨by rfl, ?_⟩) (by assumption) ?_
        rotate_left 1
        · (intro w hSw; obtain ⟨s0, s1, s2, s3⟩ := hSw; go_simp; try (with_reducible rfl))
        refine wpAnyL_take (i := 11) (v := ?_) rfl (by kernel_rfl) (by kernel_rfl) (by kernel_rfl) (by kernel_rfl) (fun _ _ _ h => h) (Or.inl ⟨by rfl, ?_⟩) (by assumption) ?_
        rotate_left 1
        · (intro w hSw; obtain ⟨s0, s1, s2, s3⟩ := hSw; go_simp; try (with_reducible rfl))
        refine wpAnyL_take (i := 12) (v := ?_) rfl (by kernel_rfl) (by kernel_rfl) (by kernel_rfl) (by kernel_rfl) (fun _ _ _ h => h) (Or.inl ⟨by rfl, ?_⟩) (by assumption) ?_
        rotate_left 1
        · (intro w hSw; obtain ⟨s0, s1, s2, s3⟩ := hSw; go_simp; try (with_reducible rfl))
        refine wpAnyL_done (by kernel_rfl) ?_
        clear hH s0 s1 s2 s3
        by_cases h0 : r.2 = 0
        · have d0' : (r.2 == 0) = true := by simpa using h0
          have HN := Nm.hide (HOK2.out h0)
          have hle := HLE.out
          have hsz2 := hB2.size
          go_wp2_with (go_at_call 52; refine (writeString_any _ _ _ r.1 _ hu2 (by rw [Lib.strCells_length]; omega) hsz2).mono ?_; rintro e w3 ⟨rfl, hu3, b3, hk3⟩)
          go_roundw
          case rel => exact ⟨k + 1, b ++ r.1, by omega, by go_num, .inr (by rw [cells_cat]; exact hu3), HN, HLE2, hB2.trans b3⟩
          case measure => simp [intOf]; omega
        · have d0' : (r.2 == 0) = false := by simpa using h0
          have HN := Nm.hide (HBD.out h0)
          go_wp2
          go_ret2
          refine ⟨?_, hB2⟩
          rw [HN.out]
          rfl
    · have hkl : k = ks.length := by omega
      subst hkl
      have i2 : ¬ (ks.length : Int) < (ks.length : Int) := by omega
      have HE : Hid (R = (b, 0)) := by
        show _ = _
        rw [HA.out, List.drop_length, each_nil]
      have hst := fun W hW hz => Tryz.Builder_String_any w.heap.size w.heap.size b.data.toList W hW hz
      rw [Lib.strCells_eq] at hbu
      clear hcap HF HCC
      go_wp2_with (go_at_call 56; refine (hst _ hbu hbel.size).mono ?_; rintro e w3 ⟨rfl, hb3⟩)
      go_ret2
      refine ⟨?_, hbel.trans hb3⟩
      rw [HE.out]
      rfl
end Go.Proofs.YtddabafaejahbaaGreatDoor
/- impl.compareFolded, (labelList).compare by their contracts. -/
namespace Go.Proofs.YtddabafaejahbaaGreatDoor
open Go.RowKit

set_option maxRecDepth 100000 in
set_option maxHeartbeats 400000 in
theorem cmpByte_any (a b : UInt8) (w : World) :
    Calls Tryz.prog 232 #[.int .u8 a.toNat, .int .u8 b.toNat] w fun e w' => e = .returned (.int .i64 (Nm.cmpI a.toNat b.toNat)) ∧ w' = w := by
  have ha : ((a.toNat : Int) != (a.toNat : Int)) = false := by simp
  have hb : ((b.toNat : Int) != (b.toNat : Int)) = false := by simp
  by_cases h1 : (a.toNat : Int) < (b.toNat : Int)
  · have HC := Nm.hide (Nm.cmpI_lt h1)
    have d1 : decide ((a.toNat : Int) < (b.toNat : Int)) = true := by simpa using h1
    go_enter Tryz.func232, Tryz.ntmps232
    go_wp2
    go_ret
    rw [HC.out]
    exact ⟨rfl, rfl⟩
  · have d1 : decide ((a.toNat : Int) < (b.toNat : Int)) = false := by simpa using h1
    by_cases h2 : (b.toNat : Int) < (a.toNat : Int)
    · have HC := Nm.hide (Nm.cmpI_gt h2)
      have d2 : decide ((b.toNat : Int) < (a.toNat : Int)) = true := by simpa using h2
      go_enter Tryz.func232, Tryz.ntmps232
      go_wp2
      go_ret
      rw [HC.out]
      exact ⟨rfl, rfl⟩
    · have HC := Nm.hide (Nm.cmpI_eq (show (a.toNat : Int) = (b.toNat : Int) by omega))
      have d2 : decide ((b.toNat : Int) < (a.toNat : Int)) = false := by simpa using h2
      go_enter Tryz.func232, Tryz.ntmps232
      go_wp2
      go_ret
      rw [HC.out]
      exact ⟨rfl, rfl⟩

set_option maxRecDepth 100000 in
set_option maxHeartbeats 400000 in
theorem cmpInt_any (a b : Int) (w : World) :
    Calls Tryz.prog 233 #[.int .i64 a, .int .i64 b] w fun e w' => e = .returned (.int .i64 (Nm.cmpI a b)) ∧ w' = w := by
  have ha : (a != a) = false := by simp
  have hb : (b != b) = false := by simp
  by_cases h1 : a < b
  · have HC := Nm.hide (Nm.cmpI_lt h1)
    go_enter Tryz.func233, Tryz.ntmps233
    go_wp2
    go_ret
    rw [HC.out]
    exact ⟨rfl, rfl⟩
  · by_cases h2 : b < a
    · have HC := Nm.hide (Nm.cmpI_gt h2)
      go_enter Tryz.func233, Tryz.ntmps233
      go_wp2
      go_ret
      rw [HC.out]
      exact ⟨rfl, rfl⟩
    · have HC := Nm.hide (Nm.cmpI_eq (show a = b by omega))
      go_enter Tryz.func233, Tryz.ntmps233
      go_wp2
      go_ret
      rw [HC.out]
      exact ⟨rfl, rfl⟩

set_option maxRecDepth 100000 in
set_option maxHeartbeats 800000 in
theorem compareFolded_any (a b : ByteArray) (w : World) (ha : a.size ≤ 1000000000) :
    Calls Tryz.prog 210 #[.string a, .string b] w fun e w' => e = .returned (.int .i64 (Nm.ordS a b)) ∧ ∃ m, w' = w.drewN m := by
  go_enter Tryz.func210, Tryz.ntmps210
  go_wp2
  go_loopw [5] (fun i wr => ∃ k : Nat, k ≤ a.size ∧ k ≤ b.size ∧ i = .int .i64 k ∧ Hid ((Nm.smallL a.data.toList).take k = (Nm.smallL b.data.toList).take k) ∧ ∃ m, Hid (wr = w.drewN m))
    (fun i _ => a.size - (intOf i).toNat)
  case atStart => exact ⟨0, Nat.zero_le _, Nat.zero_le _, rfl, by show _ = _; simp, 0, rfl⟩
  case round =>
    obtain ⟨k, hka, hkb, rfl, HT, m, HW⟩ := hrel
    by_cases h1 : k < a.size ∧ k < b.size
    · obtain ⟨h1, h2⟩ := h1
      have d1 : decide ((k : Int) < (a.size : Int)) = true := by simp; omega
      have d2 : decide ((k : Int) < (b.size : Int)) = true := by simp; omega
      have i1 : (k : Int) < (a.size : Int) := by omega
      have i2 : (k : Int) < (b.size : Int) := by omega
      by_cases he : Nm.low a[k] = Nm.low b[k]
      · have HN : Hid ((Nm.smallL a.data.toList).take (k + 1) = (Nm.smallL b.data.toList).take (k + 1)) := Nm.take_snoc_eq HT.out (Nm.small_get h1) (Nm.small_get h2) he
        have hc : (Nm.cmpI (Nm.low a[k]).toNat (Nm.low b[k]).toNat != 0) = false := by rw [Nm.cmpI_eq (by rw [he])]; rfl
        clear he
        go_wp2
        go_quiet (first | (go_at_call 154; exact Calls.quiet_of_same (foldByte_any _ _)) | (go_at_call 232; exact Calls.quiet_of_same (cmpByte_any _ _ _)))
        go_wp2
        go_roundw
        case rel => exact ⟨k + 1, by omega, by omega, by go_num, HN, _, by show _ = _; rw [HW.out, World.drewN_drewN]⟩
        case measure => simp [intOf]; omega
      · have HO : Hid (Nm.ordS a b = Nm.cmpI (Nm.low a[k]).toNat (Nm.low b[k]).toNat) := Nm.ord_at k _ _ _ _ HT.out (Nm.small_get h1) (Nm.small_get h2) he
        have hc : (Nm.cmpI (Nm.low a[k]).toNat (Nm.low b[k]).toNat != 0) = true := by
          rw [bne_iff_ne]
          exact Nm.cmpI_ne (fun e => he (UInt8.toNat_inj.1 (by omega)))
        clear he
        go_wp2
        go_quiet (first | (go_at_call 154; exact Calls.quiet_of_same (foldByte_any _ _)) | (go_at_call 232; exact Calls.quiet_of_same (cmpByte_any _ _ _)))
        go_wp2
        go_ret
        rw [HO.out]
        exact ⟨rfl, _, by rw [HW.out, World.drewN_drewN]⟩
    · have HO : Hid (Nm.ordS a b = Nm.cmpI a.size b.size) := by
        show _ = _
        have := Nm.ord_end k _ _ HT.out (by rw [Nm.smallL_length]; omega) (by rw [Nm.smallL_length]; omega) (by rw [Nm.smallL_length, Nm.smallL_length]; omega)
        rw [Nm.smallL_length, Nm.smallL_length] at this
        exact this
      by_cases h2 : k < a.size
      · have g2 : b.size ≤ k := by omega
        have d2 : decide (k < b.size) = false := by simp; omega
        clear h1
        go_wp2_with fail
        refine (cmpInt_any _ _ _).mono ?_
        rintro e w3 ⟨rfl, rfl⟩
        go_wp2
        go_ret
        rw [HO.out]
        exact ⟨rfl, _, HW.out⟩
      · have g2 : a.size ≤ k := by omega
        have d2 : decide (k < a.size) = false := by simp; omega
        clear h1
        go_wp2_with fail
        refine (cmpInt_any _ _ _).mono ?_
        rintro e w3 ⟨rfl, rfl⟩
        go_wp2
        go_ret
        rw [HO.out]
        exact ⟨rfl, _, HW.out⟩
end Go.Proofs.YtddabafaejahbaaGreatDoor
