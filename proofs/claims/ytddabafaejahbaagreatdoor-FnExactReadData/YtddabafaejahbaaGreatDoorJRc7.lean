import Derived.Test.YtddabafaejahbaaGreatDoorJTbR
import Derived.Test.YtddabafaejahbaaGreatDoorJRc4
/- The reader of one text or more, by its contract. -/
namespace Go.Proofs.YtddabafaejahbaaGreatDoor
open Go.RowKit
set_option linter.unusedVariables false

def manyR (ws : List Wrd) (o : ByteArray) : ByteArray × Int := if ws.length = 0 then (⟨#[]⟩, 15) else eachS o (List.replicate ws.length 1) ws ⟨#[]⟩
set_option maxRecDepth 100000 in
set_option maxHeartbeats 1600000 in
theorem manyRead_any (ws : List Wrd) (o : ByteArray) (gc : Nat) (g : Fn) (q : Array Value) (v : Value) (w : World) (h0 : w.cell? ⟨gc, 0, none⟩ = some (.func (.func 99) #[] #[])) (h1 : w.cell? ⟨gc, 1, none⟩ = some (.func g #[] q)) (hv : CRow w v ws.length 2 (wdVs ws)) (hnm : ws.length ≤ 300) (hz : wsz ws ≤ 1048576) (ho : o.size ≤ 1048576) (hs : Reads w) :
    Calls Tryz.prog 121 #[v, .string o, .pointer (some ⟨gc, 0, none⟩)] w fun e w' => e = .returned (strV (manyR ws o)) ∧ Below w.heap.size w w' := by
  by_cases hn : ws.length = 0
  · have hr : manyR ws o = (⟨#[]⟩, 15) := by rw [manyR, if_pos hn]
    rw [hr]
    obtain ⟨_, av, cv, rfl, hcap, hmx, hcc⟩ := hv
    clear hr hcc hs
    rw [hn]
    go_enter Tryz.func121, Tryz.ntmps121
    go_wp2
    go_ret2
    exact ⟨rfl, Below.refl _ _⟩
  · have hr : manyR ws o = eachS o (List.replicate ws.length 1) ws ⟨#[]⟩ := by rw [manyR, if_neg hn]
    rw [hr]
    have hB0 := (Below.refl w.heap.size w).alloc (Nat.le_refl _) (.cells #[.func (.func 99) #[] #[], .func g #[] q] 113)
    have hrep := repeat_any (.func 99) g #[] #[] #[] q w.heap.size ws.length (w.alloc (.cells #[.func (.func 99) #[] #[], .func g #[] q] 113)) (by simp) (by simp) (by omega) hnm
    have hre : ∀ gf W, Below w.heap.size w W → (∀ i, i < ws.length → W.cell? ⟨gf, i * 2, none⟩ = some (.func (.func 99) #[] #[]) ∧ W.cell? ⟨gf, i * 2 + 1, none⟩ = some (.func g #[] q)) → Calls Tryz.prog 111 #[.slice (some ⟨gf, 0, none⟩) ws.length ws.length, v, .string o] W fun e w' => e = .returned (strV (eachS o (List.replicate ws.length 1) ws ⟨#[]⟩)) ∧ Below W.heap.size W w' := by
      intro gf W hW hc
      have h2 := readEach_any (List.replicate ws.length 1) ws o gf ws.length v W (by
        intro i K hi
        have hi2 := List.getElem?_eq_some_iff.1 hi
        have hlt := hi2.1
        rw [List.length_replicate] at hlt
        have hK : K = 1 := by rw [← hi2.2, List.getElem_replicate]
        subst hK
        exact ⟨_, _, _, _, _, (hc i hlt).1, (hc i hlt).2, rfl⟩) (hv.below hW) (by simp) hnm (by
        intro K hK
        rw [List.eq_of_mem_replicate hK]
        exact .inl (by decide)) hz ho ⟨fun s W2 h3 h4 => hs.1 s W2 h3 (Nm.below_two hW h4), fun s W2 h4 => hs.2 s W2 (Nm.below_two hW h4)⟩
      rw [List.length_replicate] at h2
      exact h2
    obtain ⟨_, av, cv, rfl, hcap, hmx, hcc⟩ := hv
    have d1 : ((ws.length : Int) == 0) = false := by rw [beq_eq_false_iff_ne]; omega
    clear hr hcc hs hn
    generalize eachS o (List.replicate ws.length 1) ws ⟨#[]⟩ = R at *
    unfold strV at *
    go_enter Tryz.func121, Tryz.ntmps121
    go_wp2_with (first | (go_at_call 122; refine hrep.mono ?_; rintro e w1 ⟨gf, rfl, hc, hb1⟩; have hB1 := Nm.below_two hB0 hb1) | (go_at_call 111; refine (hre gf _ hB1 hc).mono ?_; rintro e w2 ⟨rfl, hb2⟩))
    go_ret2
    exact ⟨rfl, Nm.below_two hB1 hb2⟩
end Go.Proofs.YtddabafaejahbaaGreatDoor
/- The reader of a name and types by its contract. -/
namespace Go.Proofs.YtddabafaejahbaaGreatDoor
open Go.RowKit
set_option linter.unusedVariables false

/-- A name and types. -/
def ntR : List Wrd → ByteArray → ByteArray × Int
  | [], _ => (⟨#[]⟩, 15)
  | x :: r, o => if (readWd 110 x o).2 ≠ 0 then (⟨#[]⟩, (readWd 110 x o).2) else if (tysE (tysR r [])).2 ≠ 0 then (⟨#[]⟩, (tysE (tysR r [])).2) else ((readWd 110 x o).1 ++ (tysE (tysR r [])).1, 0)

theorem wsz_tail {x : Wrd} {ws : List Wrd} {N : Nat} (h : wsz (x :: ws) ≤ N) : wsz ws ≤ N := by rw [wsz_cons] at h; omega
theorem str_sum {a b : ByteArray} (h : a.size + b.size ≤ 100000000) : ¬ 9223372036854775807 < a.size + b.size := by omega

set_option maxRecDepth 100000 in
set_option maxHeartbeats 4000000 in
theorem ntRead_any (ws : List Wrd) (o : ByteArray) (gc b0 : Nat) (v : Value) (w : World) (hgc : w.cell? ⟨gc, 0, none⟩ = some (.func (.func 157) #[] #[.pointer (some ⟨b0, 0, none⟩)])) (hb0 : w.cell? ⟨b0, 0, none⟩ = some (.func (.func 96) #[] #[])) (hv : CRow w v ws.length 2 (wdVs ws)) (hnm : ws.length ≤ 300) (hz : wsz ws ≤ 1048576) (ho : o.size ≤ 1048576) (hs : Reads w) (hM : MnemAt w) (hbig : ∀ l : List Int, (mapR l).1.size ≤ 10000000) :
    Calls Tryz.prog 129 #[v, .string o, .pointer (some ⟨gc, 0, none⟩)] w fun e w' => e = .returned (strV (ntR ws o)) ∧ Below w.heap.size w w' := by
  cases ws with
  | nil =>
    obtain ⟨_, av, cv, rfl, hcap, hmx, hcc⟩ := hv
    clear hcc hs hM hbig
    go_enter Tryz.func129, Tryz.ntmps129
    go_wp2
    go_ret2
    exact ⟨rfl, Below.refl _ _⟩
  | cons x ws =>
    obtain ⟨R, HR⟩ : ∃ R, Hid (R = ntR (x :: ws) o) := ⟨_, rfl⟩
    rw [← HR.out]
    have hrz := readWd_size 110 x o
    have hxz := wsz_mem (List.mem_cons_self : x ∈ x :: ws)
    obtain ⟨F0, cp, hfe, _, hcall⟩ := read_calls (K := 0) (x := x.1) (o := o) (q := x.2) ⟨b0, rfl, hb0⟩ (.inl (by decide)) (by omega) (by unfold maxLen; omega) hs
    obtain ⟨e1, _, e2⟩ := Value.func.inj hfe
    cases e1
    subst e2
    obtain ⟨_, av, cap, rfl, hcap, hmx, hcc⟩ := hv
    obtain ⟨b, off, rfl, hcell⟩ := hcc (by simp)
    have c0 : w.cell? ⟨b, off, none⟩ = some (.string x.1) := hcell _ _ (wdVs_at (x :: ws) 0 0 x rfl (by decide))
    have c1 : w.cell? ⟨b, off + 1, none⟩ = some (.bool x.2) := hcell _ _ (wdVs_at (x :: ws) 0 1 x rfl (by decide))
    have hrow : CRow w (.slice (some ⟨b, off, none⟩) (ws.length + 1) cap) (ws.length + 1) 2 (wdVs (x :: ws)) := ⟨by rw [wdVs_len]; rfl, _, _, rfl, hcap, hmx, hcc⟩
    obtain ⟨q1, q2, q3⟩ := wd_tail hrow
    have hws : ws.length ≤ 300 := by simp at hnm; omega
    have hz2 := wsz_tail hz
    have ht2 := fun W (hW : Below w.heap.size w W) => readTypes_any _ ws W (q2.below hW) hws hz2 (hM.below hW)
    have ht3 := fun (h1 : cap = 1) W (hW : Below w.heap.size w W) => readTypes_any _ ws W ((q3 h1).below hW) hws hz2 (hM.below hW)
    have hkc : kc 0 = 110 := rfl
    rw [hkc] at hcall
    obtain ⟨N, hN⟩ : ∃ N, N = readWd 110 (x.1, x.2) o := ⟨_, rfl⟩
    obtain ⟨T, hT⟩ : ∃ T, T = tysE (tysR ws []) := ⟨_, rfl⟩
    have hTz : T.1.size ≤ 10000000 := by
      rw [hT]
      cases tysR ws [] with
      | error c => exact Nat.zero_le _
      | ok l => exact hbig l
    have hNz : N.1.size ≤ 10000000 := by rw [hN]; show (readWd 110 x o).1.size ≤ _; omega
    have HRR : Hid (R = if N.2 ≠ 0 then (⟨#[]⟩, N.2) else if T.2 ≠ 0 then (⟨#[]⟩, T.2) else (N.1 ++ T.1, 0)) := by show _ = _; rw [HR.out, ntR, hN, hT]
    rw [← hN] at hcall
    rw [← hT] at ht2 ht3
    clear hkc hN hT HR hrz hxz hcell hcc hs hM hbig hrow q2 q3 hz hz2 hnm hcap hmx hfe hb0
    unfold strV at *
    simp only [List.length_cons]
    generalize hwl : ws.length = n at *
    clear hwl
    have n1 : (1 : Int) ≤ (n : Int) + 1 := by omega
    have n0 : (0 : Int) < (n : Int) + 1 := by omega
    have nz : ((n : Int) + 1 == 0) = false := by rw [beq_eq_false_iff_ne]; omega
    go_enter Tryz.func129, Tryz.ntmps129
    go_wp2_with fail
    refine wp_region_last (S := fun W => W.cell? ⟨gc, 0, none⟩ = some (.func (.func 157) #[] #[.pointer (some ⟨b0, 0, none⟩)]) ∧ W.cell? ⟨b, off, none⟩ = some (.string x.1) ∧ W.cell? ⟨b, off + 1, none⟩ = some (.bool x.2)) (L := 1000) (by kernel_rfl) ⟨hgc, c0, c1⟩ (fun hH => ?_)
    refine wpAnyL_take (i := 0) (v := ?_) rfl (by kernel_rfl) (by kernel_rfl) (by kernel_rfl) (by kernel_rfl) (fun _ _ _ h => h) (Or.inl ⟨by rfl, ?_⟩) (by assumption) ?_
    rotate_left 1
    · (intro w hSw; obtain ⟨s0, s1, s2⟩ := hSw; go_simp; try (with_reducible rfl))
    refine wpAnyL_take (i := 1) (v := ?_) rfl (by kernel_rfl) (by kernel_rfl) (by kernel_rfl) (by kernel_rfl) (fun _ _ _ h => h) (Or.inl ⟨by rfl, ?_⟩) (by assumption) ?_
    rotate_left 1
    · (intro w hSw; obtain ⟨s0, s1, s2⟩ := hSw; go_simp; try (with_reducible rfl))
    refine wpAnyL_take (i := 2) (v := ?_) rfl (by kernel_rfl) (by kernel_rfl) (by kernel_rfl) (by kernel_rfl) (fun _ _ _ h => h) (Or.inl ⟨by rfl, ?_⟩) (by assumption) ?_
    rotate_left 1
    · (intro w hSw; obtain ⟨s0, s1, s2⟩ := hSw; go_simp; try (with_reducible rfl))
    refine wpAnyL_take (i := 3) (v := ?_) rfl (by kernel_rfl) (by kernel_rfl) (by kernel_rfl) (by kernel_rfl) (fun _ _ _ h => h) (Or.inl ⟨by rfl, ?_⟩) (by assumption) ?_
    rotate_left 1
    · (intro w hSw; obtain ⟨s0, s1, s2⟩ := hSw; go_simp; try (with_reducible rfl))
    refine wpAnyL_take (i := 4) (v := ?_) rfl (by kernel_rfl) (by kernel_rfl) (by kernel_rfl) (by kernel_rfl) (fun _ _ _ h => h) (Or.inl ⟨by rfl, ?_⟩) (by assumption) ?_
    rotate_left 1
    · (intro w hSw; obtain ⟨s0, s1, s2⟩ := hSw; go_simp; try (with_reducible rfl))
    refine wpAnyL_take (i := 5) (v := ?_) rfl (by kernel_rfl) (by kernel_rfl) (by kernel_rfl) (by kernel_rfl) (fun _ _ _ h => h) (Or.inl ⟨by rfl, ?_⟩) (by assumption) ?_
    rotate_left 1
    · (intro w hSw; obtain ⟨s0, s1, s2⟩ := hSw; go_simp; try (with_reducible rfl))
    refine wpAnyL_one (i := 6) (by kernel_rfl) rfl (fun KQ hK' => ?_)
    go_simp
    refine (hcall _ (Below.refl _ _).drew).mono ?_
    rintro e w2 ⟨rfl, hb2⟩
    have hB2 : Below w.heap.size w w2 := (Below.refl _ w).drew.trans hb2
    have s0 := (hB2.cell (World.block_lt_of_cell? _ _ hgc)).trans hgc
    have s1 := (hB2.cell (World.block_lt_of_cell? _ _ c0)).trans c0
    have s2 := (hB2.cell (World.block_lt_of_cell? _ _ c1)).trans c1
    clear hb2 hcall hgc c0 c1
    go_wp2_with fail
    refine hK'.out _ _ ⟨s0, s1, s2⟩ (fun hH => ?_)
    clear hK' KQ
    refine wpAnyL_take (i := 7) (v := ?_) rfl (by kernel_rfl) (by kernel_rfl) (by kernel_rfl) (by kernel_rfl) (fun _ _ _ h => h) (Or.inl ⟨by rfl, ?_⟩) (by assumption) ?_
    rotate_left 1
    · (intro w hSw; obtain ⟨s0, s1, s2⟩ := hSw; go_simp; try (with_reducible rfl))
    refine wpAnyL_take (i := 8) (v := ?_) rfl (by kernel_rfl) (by kernel_rfl) (by kernel_rfl) (by kernel_rfl) (fun _ _ _ h => h) (Or.inl ⟨by rfl, ?_⟩) (by assumption) ?_
    rotate_left 1
    · (intro w hSw; obtain ⟨s0, s1, s2⟩ := hSw; go_simp; try (with_reducible rfl))
    refine wpAnyL_take (i := 9) (v := ?_) rfl (by kernel_rfl) (by kernel_rfl) (by kernel_rfl) (by kernel_rfl) (fun _ _ _ h => h) (Or.inl ⟨by rfl, ?_⟩) (by assumption) ?_
    rotate_left 1
    · (intro w hSw; obtain ⟨s0, s1, s2⟩ := hSw; go_simp; try (with_reducible rfl))
    refine wpAnyL_take (i := 10) (v := ?_) rfl (by kernel_rfl) (by kernel_rfl) (by kernel_rfl) (by kernel_rfl) (fun _ _ _ h => h) (Or.inl ⟨by rfl, ?_⟩) (by assumption) ?_
    rotate_left 1
    · (intro w hSw; obtain ⟨s0, s1, s2⟩ := hSw; go_simp; try (with_reducible rfl))
    refine wpAnyL_take (i := 11) (v := ?_) rfl (by kernel_rfl) (by kernel_rfl) (by kernel_rfl) (by kernel_rfl) (fun _ _ _ h => h) (Or.inl ⟨by rfl, ?_⟩) (by assumption) ?_
    rotate_left 1
    · (intro w hSw; obtain ⟨s0, s1, s2⟩ := hSw; go_simp; try (with_reducible rfl))
    refine wpAnyL_done (by kernel_rfl) ?_
    clear hH s0 s1 s2
    by_cases h0 : N.2 = 0
    · have d0 : (N.2 == 0) = true := by simpa using h0
      have HR2 : Hid (R = if T.2 ≠ 0 then (⟨#[]⟩, T.2) else (N.1 ++ T.1, 0)) := by show _ = _; rw [HRR.out, if_neg (by simpa using h0)]
      clear h0 HRR
      have hsum := str_sum (a := N.1) (b := T.1) (by omega)
      by_cases hc1 : cap = 1
      · have hn0 : n = 0 := by omega
        subst hc1 hn0
        have ht := ht3 rfl w2 hB2
        clear ht2 ht3
        by_cases h1 : T.2 = 0
        · have d1 : (T.2 == 0) = true := by simpa using h1
          have HN : Hid (R = (N.1 ++ T.1, 0)) := by show _ = _; rw [HR2.out, if_neg (by simpa using h1)]
          clear h1 HR2
          go_wp2_with (go_at_call 130; refine ht.mono ?_; rintro e w3 ⟨rfl, hb3⟩)
          go_ret2
          rw [HN.out]
          exact ⟨rfl, Nm.below_two hB2 hb3⟩
        · have d1 : (T.2 == 0) = false := by simpa using h1
          have HN : Hid (R = (⟨#[]⟩, T.2)) := by show _ = _; rw [HR2.out, if_pos h1]
          clear h1 HR2
          go_wp2_with (go_at_call 130; refine ht.mono ?_; rintro e w3 ⟨rfl, hb3⟩)
          go_ret2
          rw [HN.out]
          exact ⟨rfl, Nm.below_two hB2 hb3⟩
      · have ht := ht2 w2 hB2
        clear ht2 ht3
        by_cases h1 : T.2 = 0
        · have d1 : (T.2 == 0) = true := by simpa using h1
          have HN : Hid (R = (N.1 ++ T.1, 0)) := by show _ = _; rw [HR2.out, if_neg (by simpa using h1)]
          clear h1 HR2
          go_wp2_with (go_at_call 130; refine ht.mono ?_; rintro e w3 ⟨rfl, hb3⟩)
          go_ret2
          rw [HN.out]
          exact ⟨rfl, Nm.below_two hB2 hb3⟩
        · have d1 : (T.2 == 0) = false := by simpa using h1
          have HN : Hid (R = (⟨#[]⟩, T.2)) := by show _ = _; rw [HR2.out, if_pos h1]
          clear h1 HR2
          go_wp2_with (go_at_call 130; refine ht.mono ?_; rintro e w3 ⟨rfl, hb3⟩)
          go_ret2
          rw [HN.out]
          exact ⟨rfl, Nm.below_two hB2 hb3⟩
    · have d0 : (N.2 == 0) = false := by simpa using h0
      have HN : Hid (R = (⟨#[]⟩, N.2)) := by show _ = _; rw [HRR.out, if_pos h0]
      clear h0 HRR ht2 ht3
      go_wp2
      go_ret2
      rw [HN.out]
      exact ⟨rfl, hB2⟩
end Go.Proofs.YtddabafaejahbaaGreatDoor
