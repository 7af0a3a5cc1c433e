import Derived.Test.YtechmpdfbpehiaaGreatDoorJMsI
import Derived.Test.YtechmpdfbpehiaaGreatDoorJV6S
import Derived.Test.YtechmpdfbpehiaaGreatDoorNameOKs
/- spec.ShowMaster by its contract. -/
namespace Go.Proofs.YtechmpdfbpehiaaGreatDoor
open Go.RowKit
set_option linter.unusedVariables false

/-- The names of what the model puts together for a record. -/
theorem line_named {S4 S6 : ByteArray → ByteArray × Int} (h4 : ∀ s, (S4 s).1.size ≤ 200) (h6 : ∀ s, (S6 s).1.size ≤ 200) {r : Rr} (out : ByteArray) (h : r.tt ≤ 2147483647) (ho : r.own.size ≤ 1048576) (hz : out.size ≤ 40000) :
    ∃ X1 X2 X3 X4 X5 X6 X7 : ByteArray, (∀ W, (Go.Op.stringOp .add out (Nm.showS r.own).1).run Tryz.prog W = .ok (.string X1) W) ∧ (∀ W, (Go.Op.stringOp .add X1 ⟨#[32]⟩).run Tryz.prog W = .ok (.string X2) W) ∧ (∀ W, (Go.Op.stringOp .add X2 (decS r.tt.toNat)).run Tryz.prog W = .ok (.string X3) W) ∧ (∀ W, (Go.Op.stringOp .add X3 ⟨#[32, 73, 78, 32]⟩).run Tryz.prog W = .ok (.string X4) W) ∧ (∀ W, (Go.Op.stringOp .add X4 (showTypeS r.ty)).run Tryz.prog W = .ok (.string X5) W) ∧ (∀ W, (Go.Op.stringOp .add X5 ⟨#[32]⟩).run Tryz.prog W = .ok (.string X6) W) ∧ (∀ W, (Go.Op.stringOp .add X6 (showDS S4 S6 r.ty r.da).1).run Tryz.prog W = .ok (.string X7) W) ∧ (∀ W, (Go.Op.stringOp .add X7 ⟨#[10]⟩).run Tryz.prog W = .ok (.string (out ++ lineS S4 S6 r)) W) := by
  have a := showS_len r.own
  have b : (decS r.tt.toNat).size ≤ 20 := by
    have := decL_len20 (n := r.tt.toNat) (by omega)
    show (decL _).toArray.size ≤ 20
    simpa using this
  have c := showType_len r.ty
  have d := showDS_len h4 h6 r.ty r.da
  have e1 : (⟨#[32]⟩ : ByteArray).size = 1 := rfl
  have e2 : (⟨#[32, 73, 78, 32]⟩ : ByteArray).size = 4 := rfl
  have e3 : (⟨#[10]⟩ : ByteArray).size = 1 := rfl
  rw [line_eq]
  refine ⟨_, _, _, _, _, _, _, fun W => run_string_add_sum W _ _ ?_, fun W => run_string_add_sum W _ _ ?_, fun W => run_string_add_sum W _ _ ?_, fun W => run_string_add_sum W _ _ ?_, fun W => run_string_add_sum W _ _ ?_, fun W => run_string_add_sum W _ _ ?_, fun W => run_string_add_sum W _ _ ?_, fun W => run_string_add_sum W _ _ ?_⟩
  all_goals first | omega | (simp only [ByteArray.size_append]; omega)

set_option maxRecDepth 100000 in
set_option maxHeartbeats 6400000 in
theorem specShowMaster_any (v : Value) (xs : List Rr) (w : World) (h : CRow w v xs.length 5 (rvVs xs)) (hx : ∀ r ∈ xs, r.own.size ≤ 1048576 ∧ r.da.size ≤ 1048576) :
    Calls Tryz.prog 5 #[v] w fun e w' => e = .returned (.tuple #[.string (masterS showV4S showV6S xs).1, .int .i64 (masterS showV4S showV6S xs).2]) ∧ Below w.heap.size w w' := by
  obtain ⟨_, a, cap, rfl, hcap, hmx, hc⟩ := h
  unfold masterS
  by_cases hn : 500 < xs.length
  · rw [if_pos hn]
    have hn' : (500 : Int) < (xs.length : Int) := by omega
    clear hx hc
    go_enter Tryz.func5, Tryz.ntmps5
    go_wp2
    go_ret2
    exact ⟨rfl, Below.refl _ _⟩
  rw [if_neg hn]
  have hn' : (xs.length : Int) ≤ 500 := by omega
  obtain ⟨RES, HRES⟩ : ∃ R, Hid (R = if xs.all mrOK = true then outF showV4S showV6S xs ⟨#[]⟩ else (⟨#[]⟩, 32)) := ⟨_, rfl⟩
  rw [← HRES.out]
  have hcells : ∀ (k : Nat) (x : Rr) (W : World), xs[k]? = some x → Below w.heap.size w W → ∃ b off, a = some ⟨b, off, none⟩ ∧ W.cell? ⟨b, off + k * 5, none⟩ = some (.string x.own) ∧ W.cell? ⟨b, off + k * 5 + 1, none⟩ = some (.int .i64 x.ty) ∧ W.cell? ⟨b, off + k * 5 + 2, none⟩ = some (.int .i64 x.cl) ∧ W.cell? ⟨b, off + k * 5 + 3, none⟩ = some (.int .i64 x.tt) ∧ W.cell? ⟨b, off + k * 5 + 4, none⟩ = some (.string x.da) := by
    intro k x W hk hW
    have hlt : k < xs.length := (List.getElem?_eq_some_iff.1 hk).1
    obtain ⟨b, off, rfl, hcell⟩ := hc (by omega)
    obtain ⟨c0, c1, c2, c3, c4⟩ := rv_cells hcell hk
    have put : ∀ {O : Nat} {z : Value}, w.cell? ⟨b, O, none⟩ = some z → W.cell? ⟨b, O, none⟩ = some z := fun h => (hW.cell (World.block_lt_of_cell? w _ h)).trans h
    exact ⟨b, off, rfl, put c0, put c1, put c2, put c3, put c4⟩
  clear hc
  go_enter Tryz.func5, Tryz.ntmps5
  go_wp2
  go_loopw [4] (fun i wr => ∃ k : Nat, k ≤ xs.length ∧ i = .int .i64 k ∧ Hid ((xs.take k).all mrOK = true) ∧ Below w.heap.size w wr) (fun i _ => xs.length - (intOf i).toNat)
  case atStart => exact ⟨0, Nat.zero_le _, rfl, by show _ = _; simp, Below.refl _ _⟩
  case round =>
    obtain ⟨k, hk, rfl, HA, hbel⟩ := hrel
    by_cases hlt : k < xs.length
    · obtain ⟨x, hxk⟩ : ∃ x, xs[k]? = some x := ⟨_, List.getElem?_eq_getElem hlt⟩
      obtain ⟨b, off, rfl, c0, c1, c2, c3, c4⟩ := hcells k x wr hxk hbel
      have hmem := List.mem_of_getElem? hxk
      have i1 : (0 : Int) ≤ (k : Int) := by omega
      have i2 : (k : Int) < (xs.length : Int) := by omega
      have hB1 := hbel.alloc hbel.size (.cells #[.string x.own, .int .i64 x.ty, .int .i64 x.cl, .int .i64 x.tt, .string x.da] 33)
      have hR0 := RB.new wr x 33
      have hno := fun W => specNameOK_any x.own W (by have := (hx x hmem).1; unfold maxLen; omega)
      have hwi := fun W => l04In_any x.tt 2147483647 W
      have hme := fun W => l05Meta_any x.ty W
      have hck := fun W => specCheckData_any x.ty x.da W
      have HM : Hid (mrOK x = ((Nm.split x.own).isSome && x.cl == 1 && (decide (0 ≤ x.tt) && decide (x.tt ≤ 2147483647)) && !metaB x.ty && cutCode x.ty x.da == 0)) := rfl
      have HZ : Hid (mrOK x = false → RES = (⟨#[]⟩, 32)) := by
        intro hok
        have hz : xs.all mrOK = false := by
          rw [List.all_eq_false]
          exact ⟨x, hmem, by simp [hok]⟩
        rw [HRES.out, hz]; rfl
      have HY : Hid (mrOK x = true → (xs.take (k + 1)).all mrOK = true) := by
        intro hok
        rw [all_take hxk, HA.out, hok]; rfl
      clear hcells hmem hxk HRES HA hx
      obtain ⟨o, ty, cl, tt, da⟩ := x
      simp only at hno hwi hme hck HM HZ HY hR0 hB1 c0 c1 c2 c3 c4
      generalize mrOK ⟨o, ty, cl, tt, da⟩ = M at *
      generalize (Nm.split o).isSome = B1 at *
      generalize (decide (0 ≤ tt) && decide (tt ≤ 2147483647)) = B3 at *
      generalize metaB ty = B4 at *
      generalize cutCode ty da = C5 at *
      cases B1 with
      | false =>
        obtain rfl : RES = (⟨#[]⟩, 32) := HZ.out (by rw [HM.out]; simp)
        go_wp2_with (first | (go_at_call 10; refine (hno _).mono ?_; rintro e w1 ⟨rfl, hb1⟩; obtain ⟨k0, k1, k2, k3, k4⟩ := hR0.below hb1) | (go_at_call 11; refine (hwi _).mono ?_; rintro e wf ⟨rfl, hw⟩; obtain rfl := hw.symm; clear hw) | (go_at_call 12; refine (hme _).mono ?_; rintro e wf ⟨rfl, hw⟩; obtain rfl := hw.symm; clear hw) | (go_at_call 13; refine (hck _).mono ?_; rintro e w2 ⟨rfl, hb2⟩))
        go_ret2
        exact ⟨rfl, Nm.below_two hB1 hb1⟩
      | true =>
        by_cases h2 : cl = 1
        · have e2 : (cl != 1) = false := by simp [h2]
          subst h2
          cases B3 with
          | false =>
            obtain rfl : RES = (⟨#[]⟩, 32) := HZ.out (by rw [HM.out]; simp)
            go_wp2_with (first | (go_at_call 10; refine (hno _).mono ?_; rintro e w1 ⟨rfl, hb1⟩; obtain ⟨k0, k1, k2, k3, k4⟩ := hR0.below hb1) | (go_at_call 11; refine (hwi _).mono ?_; rintro e wf ⟨rfl, hw⟩; obtain rfl := hw.symm; clear hw) | (go_at_call 12; refine (hme _).mono ?_; rintro e wf ⟨rfl, hw⟩; obtain rfl := hw.symm; clear hw) | (go_at_call 13; refine (hck _).mono ?_; rintro e w2 ⟨rfl, hb2⟩))
            go_ret2
            exact ⟨rfl, Nm.below_two hB1 hb1⟩
          | true =>
            cases B4 with
            | true =>
              obtain rfl : RES = (⟨#[]⟩, 32) := HZ.out (by rw [HM.out]; simp)
              go_wp2_with (first | (go_at_call 10; refine (hno _).mono ?_; rintro e w1 ⟨rfl, hb1⟩; obtain ⟨k0, k1, k2, k3, k4⟩ := hR0.below hb1) | (go_at_call 11; refine (hwi _).mono ?_; rintro e wf ⟨rfl, hw⟩; obtain rfl := hw.symm; clear hw) | (go_at_call 12; refine (hme _).mono ?_; rintro e wf ⟨rfl, hw⟩; obtain rfl := hw.symm; clear hw) | (go_at_call 13; refine (hck _).mono ?_; rintro e w2 ⟨rfl, hb2⟩))
              go_ret2
              exact ⟨rfl, Nm.below_two hB1 hb1⟩
            | false =>
              by_cases h5 : C5 = 0
              · subst h5
                have HY2 := Nm.hide (HY.out (by rw [HM.out]; rfl))
                clear HZ HY HM
                go_wp2_with (first | (go_at_call 10; refine (hno _).mono ?_; rintro e w1 ⟨rfl, hb1⟩; obtain ⟨k0, k1, k2, k3, k4⟩ := hR0.below hb1) | (go_at_call 11; refine (hwi _).mono ?_; rintro e wf ⟨rfl, hw⟩; obtain rfl := hw.symm; clear hw) | (go_at_call 12; refine (hme _).mono ?_; rintro e wf ⟨rfl, hw⟩; obtain rfl := hw.symm; clear hw) | (go_at_call 13; refine (hck _).mono ?_; rintro e w2 ⟨rfl, hb2⟩))
                go_roundw
                case rel => exact ⟨k + 1, by omega, by go_num, HY2.out, Nm.below_two (Nm.below_two hB1 hb1) hb2⟩
                case measure => simp [intOf]; omega
              · obtain rfl : RES = (⟨#[]⟩, 32) := HZ.out (by rw [HM.out]; simp [h5])
                have e5 : (C5 != 0) = true := by rw [bne_iff_ne]; exact h5
                go_wp2_with (first | (go_at_call 10; refine (hno _).mono ?_; rintro e w1 ⟨rfl, hb1⟩; obtain ⟨k0, k1, k2, k3, k4⟩ := hR0.below hb1) | (go_at_call 11; refine (hwi _).mono ?_; rintro e wf ⟨rfl, hw⟩; obtain rfl := hw.symm; clear hw) | (go_at_call 12; refine (hme _).mono ?_; rintro e wf ⟨rfl, hw⟩; obtain rfl := hw.symm; clear hw) | (go_at_call 13; refine (hck _).mono ?_; rintro e w2 ⟨rfl, hb2⟩))
                go_ret2
                exact ⟨rfl, Nm.below_two (Nm.below_two hB1 hb1) hb2⟩
        · have e2 : (cl != 1) = true := by rw [bne_iff_ne]; exact h2
          obtain rfl : RES = (⟨#[]⟩, 32) := HZ.out (by rw [HM.out]; simp [h2])
          go_wp2_with (first | (go_at_call 10; refine (hno _).mono ?_; rintro e w1 ⟨rfl, hb1⟩; obtain ⟨k0, k1, k2, k3, k4⟩ := hR0.below hb1) | (go_at_call 11; refine (hwi _).mono ?_; rintro e wf ⟨rfl, hw⟩; obtain rfl := hw.symm; clear hw) | (go_at_call 12; refine (hme _).mono ?_; rintro e wf ⟨rfl, hw⟩; obtain rfl := hw.symm; clear hw) | (go_at_call 13; refine (hck _).mono ?_; rintro e w2 ⟨rfl, hb2⟩))
          go_ret2
          exact ⟨rfl, Nm.below_two hB1 hb1⟩
    · have hkl : k = xs.length := by omega
      have hall : xs.all mrOK = true := by
        have := HA.out
        rwa [hkl, List.take_length] at this
      have HR : Hid (RES = outF showV4S showV6S (xs.drop 0) ⟨#[]⟩) := by
        show _ = _
        rw [HRES.out, if_pos hall]; rfl
      clear HRES
      subst hkl
      have hao : ∀ r ∈ xs, mrOK r = true := List.all_eq_true.1 hall
      clear hall HA
      go_wp2
      go_loopw [6, 7] (fun t i wr => ∃ (k : Nat) (out : ByteArray), k ≤ xs.length ∧ i = .int .i64 k ∧ t = .string out ∧ out.size ≤ 40000 ∧ Hid (RES = outF showV4S showV6S (xs.drop k) out) ∧ Below w.heap.size w wr) (fun _ i _ => xs.length - (intOf i).toNat)
      case atStart => exact ⟨0, ⟨#[]⟩, Nat.zero_le _, rfl, rfl, by decide, HR, hbel⟩
      case round =>
        clear hbel HR
        obtain ⟨k, out, hk, rfl, rfl, hos, HA, hbel⟩ := hrel
        by_cases hlt : k < xs.length
        · obtain ⟨x, hxk⟩ : ∃ x, xs[k]? = some x := ⟨_, List.getElem?_eq_getElem hlt⟩
          have hmem := List.mem_of_getElem? hxk
          have hmf := mr_facts (hao x hmem)
          have hS : ∀ W, Below w.heap.size w W → Below w.heap.size w W := fun W h => h
          obtain ⟨b, off, rfl, _⟩ := hcells k x wr hxk hbel
          have hcc : ∀ W, Below w.heap.size w W → (W.cell? ⟨b, off + k * 5, none⟩ = some (.string x.own) ∧ W.cell? ⟨b, off + k * 5 + 1, none⟩ = some (.int .i64 x.ty) ∧ W.cell? ⟨b, off + k * 5 + 3, none⟩ = some (.int .i64 x.tt) ∧ W.cell? ⟨b, off + k * 5 + 4, none⟩ = some (.string x.da)) ∧ Below w.heap.size w W := by
            intro W hW
            obtain ⟨b', off', he, c0, c1, c2, c3, c4⟩ := hcells k x W hxk hW
            cases he
            exact ⟨⟨c0, c1, c3, c4⟩, hW⟩
          obtain ⟨X1, X2, X3, X4, X5, X6, X7, a1, a2, a3, a4, a5, a6, a7, a8⟩ := line_named (S4 := showV4S) (S6 := showV6S) v4_len v6_len (r := x) out hmf.2.2.1.2 (hx x hmem).1 hos
          have HS := outF_step (S4 := showV4S) (S6 := showV6S) hxk out
          have htt : ((x.tt.toNat : Nat) : Int) = x.tt := by have := hmf.2.2.1.1; omega
          have hnm := fun W => specShowName_any x.own W (by have := (hx x hmem).1; unfold maxLen; omega)
          have hsd : ∀ W, Below w.heap.size w W → Calls Tryz.prog 15 #[.int .i64 x.ty, .string x.da] W fun e w' => e = .returned (.tuple #[.string (showDS showV4S showV6S x.ty x.da).1, .int .i64 (showDS showV4S showV6S x.ty x.da).2]) ∧ Below w.heap.size w w' := fun W hW => (specShowData_any x.ty x.da W).mono (by rintro e w' ⟨he, hb⟩; exact ⟨he, Nm.below_two hW hb⟩)
          have hde : ∀ W, Below w.heap.size w W → Calls Tryz.prog 16 #[.int .i64 x.tt] W fun e w' => e = .returned (.string (decS x.tt.toNat)) ∧ Below w.heap.size w w' := fun W hW => by
            have := l03Dec_any x.tt.toNat W (by omega)
            rw [htt] at this
            exact this.mono (by rintro e w' ⟨he, hb⟩; exact ⟨he, Nm.below_two hW hb⟩)
          have hty : ∀ W, Below w.heap.size w W → Calls Tryz.prog 17 #[.int .i64 x.ty] W fun e w' => e = .returned (.string (showTypeS x.ty)) ∧ Below w.heap.size w w' := fun W hW => (specShowType_any x.ty W).mono (by rintro e w' ⟨he, hb⟩; exact ⟨he, Nm.below_two hW hb⟩)
          have i1 : (0 : Int) ≤ (k : Int) := by omega
          have i3 : (k : Int) < (xs.length : Int) := by omega
          generalize out ++ lineS showV4S showV6S x = X8 at *
          generalize (Nm.showS x.own).1 = T1 at *
          generalize (Nm.showS x.own).2 = C1 at *
          generalize decS x.tt.toNat = T2 at *
          generalize showTypeS x.ty = T3 at *
          generalize (showDS showV4S showV6S x.ty x.da).1 = T4 at *
          generalize (showDS showV4S showV6S x.ty x.da).2 = C4 at *
          clear hcells hmem hxk hao hmf hx htt
          obtain ⟨o, ty, cl, tt, da⟩ := x
          simp only at hcc hnm hsd hde hty
          obtain ⟨⟨q0, q1, q3, q4⟩, _⟩ := hcc wr hbel
          go_wp2_with (first | (go_at_call 14; refine (hnm _).mono ?_; rintro e w1 ⟨rfl, hb1⟩; have hB1 := Nm.below_two hbel hb1; clear q0 q1 q3 q4))
          have hS1 := hcc w1.drew hB1.drew
          go_region_held3 (fun W => (W.cell? ⟨b, off + k * 5, none⟩ = some (.string o) ∧ W.cell? ⟨b, off + k * 5 + 1, none⟩ = some (.int .i64 ty) ∧ W.cell? ⟨b, off + k * 5 + 3, none⟩ = some (.int .i64 tt) ∧ W.cell? ⟨b, off + k * 5 + 4, none⟩ = some (.string da)) ∧ Below w.heap.size w W) (first | with_reducible assumption | with_reducible exact hS1) ((first | (go_at_call 15; refine (hsd _ (by first | with_reducible exact hS1.2 | with_reducible exact hB1)).mono ?_; rintro e w2 ⟨rfl, hb2⟩; have hS2 := hcc _ hb2)))
          clear hsd hnm hS1
          have hS3 := hcc w2.drew hb2.drew
          go_wp2
          go_region_held3 (fun W => (W.cell? ⟨b, off + k * 5, none⟩ = some (.string o) ∧ W.cell? ⟨b, off + k * 5 + 1, none⟩ = some (.int .i64 ty) ∧ W.cell? ⟨b, off + k * 5 + 3, none⟩ = some (.int .i64 tt) ∧ W.cell? ⟨b, off + k * 5 + 4, none⟩ = some (.string da)) ∧ Below w.heap.size w W) (first | with_reducible assumption | with_reducible exact hS3) ((first | (go_at_call 16; refine (hde _ (by first | with_reducible exact hS5.2 | with_reducible exact hS3.2)).mono ?_; rintro e w4 ⟨rfl, hb4⟩; have hS4 := hcc _ hb4) | (go_at_call 17; refine (hty _ (by first | with_reducible exact hS4.2 | with_reducible exact hS3.2)).mono ?_; rintro e w5 ⟨rfl, hb5⟩; have hS5 := hcc _ hb5)))
          clear hde hty hcc hS3 hS4 hS5
          by_cases hbig : 40000 < X8.size
          · obtain rfl : RES = (⟨#[]⟩, 11) := by rw [HA.out, HS, if_pos hbig]
            have hbig' : (40000 : Int) < (X8.size : Int) := by omega
            clear HA HS
            go_wp2
            go_ret2
            exact ⟨rfl, hb5⟩
          · have hbig' : (X8.size : Int) ≤ 40000 := by omega
            have HA2 : Hid (RES = outF showV4S showV6S (xs.drop (k + 1)) X8) := by show _ = _; rw [HA.out, HS, if_neg hbig]
            clear HA HS hbig
            go_wp2
            go_roundw
            case rel => exact ⟨k + 1, X8, by omega, by go_num, rfl, by omega, HA2, hb5⟩
            case measure => simp [intOf]; omega
        · have hkl : k = xs.length := by omega
          obtain rfl : RES = (out, 0) := by rw [HA.out, hkl, List.drop_length, outF]
          have i3 : (xs.length : Int) ≤ (k : Int) := by omega
          clear hcells hao HA hx
          go_wp2
          go_ret2
          exact ⟨rfl, hbel⟩
end Go.Proofs.YtechmpdfbpehiaaGreatDoor
