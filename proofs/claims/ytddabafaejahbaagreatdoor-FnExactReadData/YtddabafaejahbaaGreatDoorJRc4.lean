import Derived.Test.YtddabafaejahbaaGreatDoorJRc3
import Derived.Test.YtddabafaejahbaaGreatDoorJINbd
/- impl.readTypes by its contract; the readers of forms. -/
namespace Go.Proofs.YtddabafaejahbaaGreatDoor
open Go.RowKit
set_option linter.unusedVariables false

theorem Tryz.infoI64r : (Tryz.prog.info? 2).map (fun i => (i.zero, i.size, i.bytes)) = some (some (.int .i64 0), 1, 8) := by kernel_rfl
/-- The types that words tell. -/
def tysR : List Wrd → List Int → Except Int (List Int)
  | [], ts => .ok ts
  | x :: r, ts => if x.2 = true then .error 15 else if (readTyS x.1).2 ≠ 0 then .error (readTyS x.1).2 else tysR r (ts ++ [(readTyS x.1).1])
def tysE : Except Int (List Int) → ByteArray × Int
  | .error c => (⟨#[]⟩, c)
  | .ok l => mapR l
set_option maxRecDepth 100000 in
set_option maxHeartbeats 4000000 in
theorem readTypes_any (v : Value) (ws : List Wrd) (w : World) (h : CRow w v ws.length 2 (wdVs ws)) (hn : ws.length ≤ 300) (hz : wsz ws ≤ 1048576) (hM : MnemAt w) :
    Calls Tryz.prog 130 #[v] w fun e w' => e = .returned (strV (tysE (tysR ws []))) ∧ Below w.heap.size w w' := by
  obtain ⟨i0, hi, hz0, hz1, hz2⟩ := info_parts Tryz.infoI64r
  obtain ⟨R, HR⟩ : ∃ R, Hid (R = tysE (tysR ws [])) := ⟨_, rfl⟩
  rw [← HR.out]
  obtain ⟨_, a, cap, rfl, hcap, hmx, hcc⟩ := h
  have HCC := Nm.hide hcc
  have HM := Nm.hide hM
  have HZ := Nm.hide hz
  have HST : Hid (R = tysE (tysR (ws.drop 0) [])) := HR
  clear hcc hM hz HR
  go_enter Tryz.func130, Tryz.ntmps130
  go_wp2
  go_loopw [4, 11] (fun v i wr => ∃ (k : Nat) (l : List Int), k ≤ ws.length ∧ i = .int .i64 k ∧ Hid (l.length = k) ∧ Hid (R = tysE (tysR (ws.drop k) l)) ∧ wr.ownsRow w.heap.size 2 1 v l.length (intCells l) ∧ Below w.heap.size w wr) (fun _ i _ => ws.length - (intOf i).toNat)
  case atStart => exact ⟨0, [], Nat.zero_le _, rfl, rfl, HST, World.ownsRow_nil _ _ _ _, Below.refl _ _⟩
  case round =>
    obtain ⟨k, l, hk, rfl, HLK, HA, hown, hbel⟩ := hrel
    clear HST
    have hsz := hbel.size
    by_cases hlt : k < ws.length
    · obtain ⟨x, hx⟩ : ∃ x, ws[k]? = some x := ⟨_, List.getElem?_eq_getElem hlt⟩
      obtain ⟨b, off, rfl, hcell⟩ := HCC.out (by omega)
      have put : ∀ {g O : Nat} {z : Value}, w.cell? ⟨g, O, none⟩ = some z → wr.cell? ⟨g, O, none⟩ = some z := fun h => (hbel.cell (World.block_lt_of_cell? w _ h)).trans h
      have c0 : wr.cell? ⟨b, off + k * 2, none⟩ = some (.string x.1) := put (hcell _ _ (wdVs_at ws k 0 x hx (by decide)))
      have c1 : wr.cell? ⟨b, off + k * 2 + 1, none⟩ = some (.bool x.2) := put (hcell _ _ (wdVs_at ws k 1 x hx (by decide)))
      have i1 : (0 : Int) ≤ (k : Int) := by omega
      have i2 : (k : Int) < (ws.length : Int) := by omega
      have hxz := wsz_mem (List.mem_of_getElem? hx)
      have hzz := HZ.out
      have hB1 := hbel.alloc hsz (.cells #[.string x.1, .bool x.2] 40)
      have hl3 : l.length ≤ 300 := by have := HLK.out; omega
      have hstep := HA.out
      rw [drop_at hx, tysR] at hstep
      have hT := fun W (hW : Below w.heap.size w W) => implReadType_any x.1 W (by omega) (HM.out.below hW)
      generalize hty : readTyS x.1 = T at *
      clear hty
      unfold pairV at hT
      have hown1 := hown.alloc (.cells #[.string x.1, .bool x.2] 40)
      cases hq : x.2 with
      | true =>
        rw [hq] at c1
        rw [hq, if_pos rfl] at hstep
        have HN := Nm.hide hstep
        clear hstep hcell put hx HA hT
        go_wp2
        go_ret2
        rw [HN.out]
        exact ⟨rfl, hbel.alloc hsz _⟩
      | false =>
        rw [hq] at c1 hB1 hown1
        rw [hq, if_neg (by decide)] at hstep
        by_cases h0 : T.2 = 0
        · rw [if_neg (by simpa using h0)] at hstep
          have HN := Nm.hide hstep
          rw [h0] at hT
          clear hstep hcell put hx HA hq
          generalize T.1 = t at *
          go_wp2_with (first | (go_at_call 176; refine (hT _ hB1).mono ?_; rintro e w2 ⟨rfl, hb2⟩; have hown2 := own_below hown1 hb2; have hbel2 := Nm.below_two hB1 hb2; have hsz2 := hbel2.size) | (at_builtin; refine wpList_append_own _ rfl (.tmp 26) (.tmp 28) 44 rfl w.heap.size 2 i0 (.int .i64 0) 1 8 Tryz.underlying44 hi hz0 hz1 hz2 rfl (by decide) _ _ _ rfl (hown2.alloc _) ⟨w2.heap.size, 0, none⟩ 1 1 [.int .i64 t] rfl rfl (cell_new1 _ _ _) (Nm.one_cell _ rfl) (by unfold maxLen; omega) (by omega) (by simp; omega) ?_))
          intro v' w4 hown' hgrow _
          have o4 : w4.ownsRow w.heap.size 2 1 v' (l ++ [t]).length (intCells (l ++ [t])) := by simpa [intCells] using hown'
          have b4 : Below w.heap.size w w4 := (hbel2.alloc hsz2 _).grown hgrow (by simp; omega) (fun q hq => (hown2.lt q hq).1)
          have HL4 : Hid ((l ++ [t]).length = k + 1) := by show _ = _; simp [HLK.out]
          clear hown' hgrow hown hbel
          go_wp2
          go_roundw
          case rel => exact ⟨k + 1, l ++ [t], by omega, by go_num, HL4, HN, o4, b4⟩
          case measure => simp [intOf]; omega
        · rw [if_pos h0] at hstep
          have HN := Nm.hide hstep
          have h0' : (T.2 == 0) = false := by simpa using h0
          clear hstep hcell put hx HA hq h0
          go_wp2_with (go_at_call 176; refine (hT _ hB1).mono ?_; rintro e w2 ⟨rfl, hb2⟩)
          go_ret2
          rw [HN.out]
          exact ⟨rfl, Nm.below_two hB1 hb2⟩
    · have hkl : k = ws.length := by omega
      subst hkl
      have i2 : ¬ (ws.length : Int) < (ws.length : Int) := by omega
      have HE : Hid (R = mapR l) := by show _ = _; rw [HA.out, List.drop_length, tysR, tysE]
      have hT := fun u W (hW : CRow W u l.length 1 (intCells l)) => implTypeMap_any u l W hW (by have := HLK.out; omega)
      have hcr := CRow.of_owns hown
      clear HA HCC
      go_wp2_with (go_at_call 177; refine (hT _ _ hcr).mono ?_; rintro e w2 ⟨rfl, hb2⟩)
      go_ret2
      rw [HE.out]
      exact ⟨rfl, Nm.below_two hbel hb2⟩

/-- Just these words. -/
def justR (ks : List Nat) (ws : List Wrd) (o : ByteArray) : ByteArray × Int := if ws.length ≠ ks.length then (⟨#[]⟩, 15) else eachS o ks ws ⟨#[]⟩
set_option maxRecDepth 100000 in
set_option maxHeartbeats 800000 in
theorem justRead_any (ks : List Nat) (ws : List Wrd) (o : ByteArray) (gc gf cap : Nat) (v : Value) (w : World) (hgc : w.cell? ⟨gc, 0, none⟩ = some (.slice (some ⟨gf, 0, none⟩) ks.length cap)) (hf : RForms w gf ks) (hv : CRow w v ws.length 2 (wdVs ws)) (hnm : ws.length ≤ 300) (hok : ∀ K ∈ ks, kindOK K) (hz : wsz ws ≤ 1048576) (ho : o.size ≤ 1048576) (hs : Reads w) :
    Calls Tryz.prog 110 #[v, .string o, .pointer (some ⟨gc, 0, none⟩)] w fun e w' => e = .returned (strV (justR ks ws o)) ∧ Below w.heap.size w w' := by
  by_cases hn : ks.length = ws.length
  · have hre := readEach_any ks ws o gf cap v w hf hv hn hnm hok hz ho hs
    have hr : justR ks ws o = eachS o ks ws ⟨#[]⟩ := by rw [justR, if_neg (by omega)]
    rw [hr]
    obtain ⟨_, av, cv, rfl, hcap, hmx, hcc⟩ := hv
    have d1 : ((ws.length : Int) == (ks.length : Int)) = true := by rw [beq_iff_eq]; omega
    clear hr hn hcc hf hs hok
    generalize eachS o ks ws ⟨#[]⟩ = R at *
    unfold strV at *
    go_enter Tryz.func110, Tryz.ntmps110
    go_wp2_with (go_at_call 111; refine hre.mono ?_; rintro e w1 ⟨rfl, hb1⟩)
    go_ret2
    exact ⟨rfl, hb1⟩
  · have hr : justR ks ws o = (⟨#[]⟩, 15) := by rw [justR, if_pos (by omega)]
    rw [hr]
    obtain ⟨_, av, cv, rfl, hcap, hmx, hcc⟩ := hv
    have d1 : ((ws.length : Int) == (ks.length : Int)) = false := by rw [beq_eq_false_iff_ne]; omega
    clear hr hn hcc hf hs hok
    go_enter Tryz.func110, Tryz.ntmps110
    go_wp2
    go_ret2
    exact ⟨rfl, Below.refl _ _⟩
end Go.Proofs.YtddabafaejahbaaGreatDoor
/- The words behind the first; a product of small numbers. -/
namespace Go.Proofs.YtddabafaejahbaaGreatDoor
open Go.RowKit
set_option linter.unusedVariables false

/-- The words behind the first. -/
theorem wd_tail {w : World} {b off cap : Nat} {x : Wrd} {ws : List Wrd} (h : CRow w (.slice (some ⟨b, off, none⟩) (ws.length + 1) cap) (ws.length + 1) 2 (wdVs (x :: ws))) :
    ws.length + 1 ≤ cap ∧ CRow w (.slice (some ⟨b, off + 2, none⟩) ws.length (cap - 1)) ws.length 2 (wdVs ws) ∧ (cap = 1 → CRow w (.slice (some ⟨b, off, none⟩) 0 0) ws.length 2 (wdVs ws)) := by
  obtain ⟨hl, a, c, e, hcap, hmx, hc⟩ := h
  cases e
  refine ⟨hcap, ⟨by rw [wdVs_len], _, _, rfl, by omega, by omega, fun hp => ⟨b, off + 2, rfl, ?_⟩⟩, fun h1 => ?_⟩
  · obtain ⟨b', off', e, hcell⟩ := hc (by omega)
    cases e
    intro i y hy
    have := hcell (2 + i) y (by
      show (wdV x ++ wdVs ws)[2 + i]? = some y
      rw [List.getElem?_append_right (by simp [wdV]), show 2 + i - (wdV x).length = i by simp [wdV]]
      exact hy)
    rw [← Nat.add_assoc] at this
    exact this
  · have h0 : ws.length = 0 := by omega
    have e0 : ws = [] := List.length_eq_zero_iff.1 h0
    subst e0
    exact ⟨rfl, _, 0, rfl, Nat.le_refl _, by decide, fun h => absurd h (by simp)⟩

theorem wrap_u (n : Nat) (h : n ≤ 300) : IntKind.u64.wrap (n : Int) = (n : Int) := by
  have e : (n : Int) % 2 ^ 64 = (n : Int) := by omega
  simp [IntKind.wrap, IntKind.bits, IntKind.signed]
  omega
theorem and_u (n : Nat) (h : n ≤ 300) : bits .and .u64 (n : Int) 4294967295 = (n : Int) := by
  show IntKind.u64.wrap ((BitVec.ofInt 64 (n : Int) &&& BitVec.ofInt 64 4294967295).toNat : Int) = _
  have e2 : (BitVec.ofInt 64 4294967295).toNat = 2 ^ 32 - 1 := by decide
  have e1 : (BitVec.ofInt 64 (n : Int)).toNat = n := by rw [BitVec.toNat_ofInt]; omega
  rw [BitVec.toNat_and, e2, Nat.and_two_pow_sub_one_eq_mod, e1, Nat.mod_eq_of_lt (by omega)]
  exact wrap_u n h

set_option maxRecDepth 100000 in
set_option maxHeartbeats 800000 in
theorem mul64_one (n : Nat) (w : World) (hn : n ≤ 300) : Calls Tryz.prog 209 #[.int .u64 1, .int .u64 (n : Int)] w fun e w' => e = .returned (.tuple #[.int .u64 0, .int .u64 (n : Int)]) ∧ w' = w := by
  have a1 : (n : Int) / 4294967296 = 0 := by omega
  have a2 : (n : Int) ≤ 300 := by omega
  have a3 : bits .and .u64 (n : Int) 4294967295 = (n : Int) := and_u n hn
  have a4 : bits .and .u64 1 4294967295 = 1 := by decide
  have a5 : bits .and .u64 0 4294967295 = 0 := by decide
  have a6 : IntKind.u64.wrap (n : Int) = (n : Int) := wrap_u n hn
  have a7 : IntKind.u64.wrap 0 = 0 := by decide
  go_enter Tryz.func209, Tryz.ntmps209
  go_wp2
  go_ret2
  exact ⟨rfl, rfl⟩

set_option maxRecDepth 100000 in
set_option maxHeartbeats 800000 in
theorem mul_one_any (n : Nat) (w : World) (hn : n ≤ 300) : Calls Tryz.prog 174 #[.int .u64 1, .int .u64 (n : Int)] w fun e w' => e = .returned (.tuple #[.int .u64 0, .int .u64 (n : Int)]) ∧ w' = w := by
  have h1 := fun W => mul64_one n W hn
  have a2 : (n : Int) ≤ 300 := by omega
  go_enter Tryz.func174, Tryz.ntmps174
  go_wp2_with (go_at_call 209; refine (h1 _).mono ?_; rintro e w1 ⟨rfl, hw⟩; obtain rfl := hw.symm; clear hw)
  go_ret2
  exact ⟨rfl, rfl⟩

end Go.Proofs.YtddabafaejahbaaGreatDoor
