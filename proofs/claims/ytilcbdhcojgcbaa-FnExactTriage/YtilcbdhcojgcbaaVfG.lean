import Derived.Test.YtilcbdhcojgcbaaVfF
/- impl.findSignature by its contract: the walk. -/
namespace Go.Proofs.Ytilcbdhcojgcbaa
open Go.RowKit
set_option linter.unusedVariables false

/-- The lists so far. -/
def preR (m : Mm) (k : Nat) : List Rm := if k = 0 then [] else if k = 1 then m.an else if k = 2 then m.an ++ m.au else m.an ++ m.au ++ m.ex
theorem filt_step {pre xs : List Rm} {k : Nat} {x : Rm} (h : xs[k]? = some x) : (pre ++ xs.take (k + 1)).filter vTs = (pre ++ xs.take k).filter vTs ++ (if vTs x then [x] else []) := by
  rw [List.take_add_one, h, ← List.append_assoc, List.filter_append]
  congr 1
  simp only [Option.toList_some, List.filter_cons, List.filter_nil]

/-- What is held. -/
structure FSt (w wr : World) (ms : Array Value) (vf : Value) (F : List Rm) : Prop where
  own : wr.ownsRow w.heap.size 56 5 vf F.length (rrCs F)
  kp : Blk wr w.heap.size ms 35
  kq : Blk wr (w.heap.size + 1) sg0 73
  be : Below w.heap.size w wr
theorem FSt.below {w wr w1 : World} {ms : Array Value} {vf : Value} {F : List Rm} (h : FSt w wr ms vf F) (hb : Below wr.heap.size wr w1) : FSt w w1 ms vf F :=
  ⟨own_below h.own hb, blk_below h.kp hb, blk_below h.kq hb, Nm.below_two h.be hb⟩
theorem FSt.app {w wr w1 : World} {ms : Array Value} {vf v' : Value} {F : List Rm} {x : Rm} (h : FSt w wr ms vf F) (ho : w1.ownsRow w.heap.size 56 5 v' (F.length + 1) (rrCs F ++ rrC x)) (hg : wr.grownBy w1 vf.ownBlock) : FSt w w1 ms v' (F ++ [x]) := by
  refine ⟨?_, blk_grown h.kp hg (own_notblk h.own h.kp (by decide)), blk_grown h.kq hg (own_notblk h.own h.kq (by decide)), h.be.grown hg h.be.size (fun k hk => (h.own.lt k hk).1)⟩
  rw [rrCs_snoc, List.length_append]
  exact ho

theorem datB_len {r : Rm} (h : datB r = true) : r.dat.length = 61 := by
  simp only [datB, Bool.and_eq_true, decide_eq_true_eq] at h
  exact h.2.2.1
/-- readSignature of a record of the type. -/
theorem readSig_any (r : Rm) (w : World) (ht : vTs r = true) :
    Calls Try.prog 47 #[.agg #[.string ⟨r.owner.toArray⟩, .int .i64 (r.ty : Int), .int .i64 (r.cl : Int), .int .i64 (r.ttl : Int), .string ⟨r.dat.toArray⟩]] w fun e w' => e = .returned (.tuple #[.agg (if r.dat.length = 61 then sgR r else sg0), .bool (datB r)]) ∧ Below w.heap.size w w' := by
  have ht2 : r.ty = 250 := by simpa [vTs] using ht
  by_cases h : r.dat.length = 61
  · rw [if_pos h]
    refine (readSig_long r w h).mono ?_
    rintro e w' ⟨rfl, hb⟩
    refine ⟨?_, hb⟩
    rw [rdB, decide_eq_true ht2, Bool.true_and]
  · rw [if_neg h]
    refine (readSig_short r w h).mono ?_
    rintro e w' ⟨rfl, hb⟩
    refine ⟨?_, hb⟩
    have : datB r = false := by
      rw [Bool.eq_false_iff]
      intro h2
      exact h (datB_len h2)
    rw [this]

set_option maxRecDepth 100000 in
set_option maxHeartbeats 6400000 in
theorem findSig_any (d f : Nat) (m : Mm) (q a u x : Value) (w : World) (h : LRd w m q a u x) (hs : m.an.length ≤ 400 ∧ m.au.length ≤ 400 ∧ m.ex.length ≤ 400) :
    Calls Try.prog 28 #[.agg (msA d f q a u x)] w fun e w' => e = .returned (.tuple #[.agg (fsV m).1, .bool (fsV m).2.1, .int .i64 (fsV m).2.2]) ∧ Below w.heap.size w w' := by
  obtain ⟨s2, s3, s4⟩ := hs
  obtain ⟨_, qa, qc, rfl, _⟩ := h.rq
  obtain ⟨_, aa, ac, rfl, ha1, ha2, hac⟩ := h.ra
  obtain ⟨_, ua, uc, rfl, hu1, hu2, huc⟩ := h.ru
  obtain ⟨_, xa, xc, rfl, hx1, hx2, hxc⟩ := h.rx
  obtain ⟨j0, hj, kz0, kz1, kz2⟩ := info_parts Try.infoRR
  have hz36 : ∀ W, (zeroValue 73).run Try.prog W = .ok (.agg sg0) W := by
    have := zero_of_info (P := Try.prog) (t := 73) (v := .agg sg0) (n := 36) (by kernel_rfl)
    exact this.1
  have hli := fun W => lists_ms d f m.qs.length m.an.length m.au.length m.ex.length qa aa ua xa qc ac uc xc W
  have hB1 := (Below.refl w.heap.size w).alloc (Nat.le_refl _) (.cells (msA d f (.slice qa m.qs.length qc) (.slice aa m.an.length ac) (.slice ua m.au.length uc) (.slice xa m.ex.length xc)) 35)
  have hB2 := hB1.alloc hB1.size (.cells sg0 73)
  have k1 := blk_alloc (blk_new w (msA d f (.slice qa m.qs.length qc) (.slice aa m.an.length ac) (.slice ua m.au.length uc) (.slice xa m.ex.length xc)) 35) (.cells sg0 73)
  have k2 := blk_new (w.alloc (.cells (msA d f (.slice qa m.qs.length qc) (.slice aa m.an.length ac) (.slice ua m.au.length uc) (.slice xa m.ex.length xc)) 35)) sg0 73
  rw [World.size_alloc] at k2
  simp only [msA] at *
  generalize ((f / 2048 % 16 : Nat) : Int) = i2 at *
  generalize ((f % 16 : Nat) : Int) = i10 at *
  generalize f.testBit 15 = t15 at *
  generalize f.testBit 10 = t10 at *
  generalize f.testBit 9 = t9 at *
  generalize f.testBit 8 = t8 at *
  generalize f.testBit 7 = t7 at *
  generalize f.testBit 6 = t6 at *
  generalize f.testBit 5 = t5 at *
  generalize f.testBit 4 = t4 at *
  generalize (d : Int) = i0 at *
  have rr := fun i => blk_cell k1 i
  have ix0 : ∀ W, (Instr.index 99 (.agg #[.slice aa m.an.length ac, .slice ua m.au.length uc, .slice xa m.ex.length xc]) (.int .i64 0)).run Try.prog W = .ok (.slice aa m.an.length ac) W := fun W => by simp [Instr.index, run_underlying Try.underlying99, asIntOf, go_sem]
  have ix1 : ∀ W, (Instr.index 99 (.agg #[.slice aa m.an.length ac, .slice ua m.au.length uc, .slice xa m.ex.length xc]) (.int .i64 1)).run Try.prog W = .ok (.slice ua m.au.length uc) W := fun W => by simp [Instr.index, run_underlying Try.underlying99, asIntOf, go_sem]
  have ix2 : ∀ W, (Instr.index 99 (.agg #[.slice aa m.an.length ac, .slice ua m.au.length uc, .slice xa m.ex.length xc]) (.int .i64 2)).run Try.prog W = .ok (.slice xa m.ex.length xc) W := fun W => by simp [Instr.index, run_underlying Try.underlying99, asIntOf, go_sem]
  clear h
  go_enter Try.func28, Try.ntmps28
  go_wp2_with fail
  refine (hli _).mono ?_
  rintro e w1 ⟨rfl, b1⟩
  have F0 : FSt w w1 #[.int .i64 i0, .bool t15, .int .i64 i2, .bool t10, .bool t9, .bool t8, .bool t7, .bool t6, .bool t5, .bool t4, .int .i64 i10, .slice qa m.qs.length qc, .slice aa m.an.length ac, .slice ua m.au.length uc, .slice xa m.ex.length xc] (.slice none 0 0) [] := ⟨World.ownsRow_nil _ _ _ _, blk_below k1 b1, blk_below k2 b1, Nm.below_two hB2 b1⟩
  clear hB1 hB2 k1 k2 hli rr b1
  go_wp2_with fail
  go_loopw [5, 15] (fun vf vk wr => ∃ (k : Nat) (z : Int) (F : List Rm), vk = .int .i64 z ∧ Hid (z = (k : Int)) ∧ k ≤ 3 ∧ Hid (F = (preR m k).filter vTs) ∧ FSt w wr #[.int .i64 i0, .bool t15, .int .i64 i2, .bool t10, .bool t9, .bool t8, .bool t7, .bool t6, .bool t5, .bool t4, .int .i64 i10, .slice qa m.qs.length qc, .slice aa m.an.length ac, .slice ua m.au.length uc, .slice xa m.ex.length xc] vf F) (fun _ vk _ => 3 - (intOf vk).toNat)
  case atStart => exact ⟨0, 0, [], rfl, rfl, by decide, by rw [Hid]; rfl, F0⟩
  case round =>
    clear F0
    obtain ⟨k, z, F, rfl, HZ, hk, HF, Fq⟩ := hrel
    have hkk : k = 0 ∨ k = 1 ∨ k = 2 ∨ k = 3 := by omega
    rcases hkk with rfl | rfl | rfl | rfl
    · obtain rfl : z = 0 := HZ.out
      clear ix1 ix2
      go_wp2_with fail
      go_loopw [5, 20] (fun vf vi wr => ∃ (i : Nat) (F : List Rm), vi = .int .i64 i ∧ i ≤ (m.an).length ∧ Hid (F = (([] : List Rm) ++ (m.an).take i).filter vTs) ∧ FSt w wr #[.int .i64 i0, .bool t15, .int .i64 i2, .bool t10, .bool t9, .bool t8, .bool t7, .bool t6, .bool t5, .bool t4, .int .i64 i10, .slice qa m.qs.length qc, .slice aa m.an.length ac, .slice ua m.au.length uc, .slice xa m.ex.length xc] vf F) (fun _ vi _ => (m.an).length - (intOf vi).toNat)
      case atStart => exact ⟨0, F, rfl, Nat.zero_le _, by rw [Hid, HF.out]; simp [preR], Fq⟩
      case round =>
        clear Fq HF
        obtain ⟨i, F, rfl, hi, HF, Fk⟩ := hrel
        by_cases hlt : i < (m.an).length
        · obtain ⟨x, hx⟩ : ∃ x, (m.an)[i]? = some x := ⟨_, List.getElem?_eq_getElem hlt⟩
          obtain ⟨b, off, rfl, hcell⟩ := hac (by omega)
          have put : ∀ {O : Nat} {z : Value}, w.cell? ⟨b, O, none⟩ = some z → wr.cell? ⟨b, O, none⟩ = some z := fun h => (Fk.be.cell (World.block_lt_of_cell? w _ h)).trans h
          have e0 : wr.cell? ⟨b, off + i * 5, none⟩ = some (.string ⟨x.owner.toArray⟩) := put (hcell _ _ (rrCs_at m.an i 0 x hx (by decide)))
          have e1 : wr.cell? ⟨b, off + i * 5 + 1, none⟩ = some (.int .i64 (x.ty : Int)) := put (hcell _ _ (rrCs_at m.an i 1 x hx (by decide)))
          have e2 : wr.cell? ⟨b, off + i * 5 + 2, none⟩ = some (.int .i64 (x.cl : Int)) := put (hcell _ _ (rrCs_at m.an i 2 x hx (by decide)))
          have e3 : wr.cell? ⟨b, off + i * 5 + 3, none⟩ = some (.int .i64 (x.ttl : Int)) := put (hcell _ _ (rrCs_at m.an i 3 x hx (by decide)))
          have e4 : wr.cell? ⟨b, off + i * 5 + 4, none⟩ = some (.string ⟨x.dat.toArray⟩) := put (hcell _ _ (rrCs_at m.an i 4 x hx (by decide)))
          have j1 : (0 : Int) ≤ (i : Int) := by omega
          have j2 : (i : Int) < ((m.an).length : Int) := by omega
          have hA := (Below.refl wr.heap.size wr).alloc (Nat.le_refl _) (.cells #[.string ⟨x.owner.toArray⟩, .int .i64 (x.ty : Int), .int .i64 (x.cl : Int), .int .i64 (x.ttl : Int), .string ⟨x.dat.toArray⟩] 56)
          have F2 := Fk.below hA
          have hlen : F.length ≤ 1200 := by
            rw [HF.out]
            refine Nat.le_trans (List.length_filter_le _ _) ?_
            simp
            omega
          have HRC : Hid (rrC x = [.string ⟨x.owner.toArray⟩, .int .i64 (x.ty : Int), .int .i64 (x.cl : Int), .int .i64 (x.ttl : Int), .string ⟨x.dat.toArray⟩]) := by rw [Hid]; rfl
          have hsz := Fk.be.size
          have HST := Nm.hide (filt_step (pre := ([] : List Rm)) hx)
          cases ht : vTs x with
          | false =>
            have ht' : ((x.ty : Int) == 250) = false := by simp only [vTs, decide_eq_false_iff_not] at ht; rw [beq_eq_false_iff_ne]; omega
            have HN : Hid (F = (([] : List Rm) ++ (m.an).take (i + 1)).filter vTs) := by rw [Hid, HST.out, ht, HF.out]; simp
            have Z := Nm.hide F2
            clear HF HST hx ht put hcell Fk F2 hA HRC
            generalize (⟨x.owner.toArray⟩ : ByteArray) = d1 at *
            generalize (⟨x.dat.toArray⟩ : ByteArray) = d5 at *
            go_wp2
            go_roundw
            case rel => exact ⟨i + 1, F, by go_num, by omega, HN, Z.out⟩
            case measure => simp [intOf]; omega
          | true =>
            have ht' : ((x.ty : Int) == 250) = true := by simp only [vTs, decide_eq_true_eq] at ht; rw [ht]; rfl
            have HN : Hid (F ++ [x] = (([] : List Rm) ++ (m.an).take (i + 1)).filter vTs) := by rw [Hid, HST.out, ht, HF.out]; simp
            have oF := F2.own
            have Z := Nm.hide F2
            clear HF HST hx ht put hcell Fk F2 hA
            generalize (⟨x.owner.toArray⟩ : ByteArray) = d1 at *
            generalize (⟨x.dat.toArray⟩ : ByteArray) = d5 at *
            generalize (x.ty : Int) = d2 at *
            generalize (x.cl : Int) = d3 at *
            generalize (x.ttl : Int) = d4 at *
            go_wp2_with (at_builtin; refine wpList_append_own _ rfl (.tmp 27) (.tmp 29) 33 rfl w.heap.size 56 j0 (.agg #[.string ByteArray.empty, .int .i64 0, .int .i64 0, .int .i64 0, .string ByteArray.empty]) 5 56 Try.underlying33 hj kz0 kz1 kz2 rfl (by decide) _ _ _ rfl (oF.alloc _) ⟨wr.heap.size + 1, 0, none⟩ 1 1 [.string d1, .int .i64 d2, .int .i64 d3, .int .i64 d4, .string d5] rfl rfl (by have := cell_newL (wr.alloc (.cells #[.string d1, .int .i64 d2, .int .i64 d3, .int .i64 d4, .string d5] 56)) [.string d1, .int .i64 d2, .int .i64 d3, .int .i64 d4, .string d5] 56; rw [World.size_alloc] at this; exact this) (by intro u hu; simp at hu; rcases hu with rfl | rfl | rfl | rfl | rfl <;> rfl) (by unfold maxLen; omega) (by omega) (by simp; omega) ?_; intro vb wb hown8 hgrow8 hnl8; clear hnl8; rw [← HRC.out] at hown8; have Z2 := Nm.hide (FSt.app (Z.out.below ((Below.refl _ _).alloc (Nat.le_refl _) _)) hown8 hgrow8); clear hgrow8 hown8 oF Z)
            go_roundw
            case rel => exact ⟨i + 1, F ++ [x], by go_num, by omega, HN, Z2.out⟩
            case measure => simp [intOf]; omega
        · have hie : i = (m.an).length := by omega
          subst hie
          have j2 : ¬ ((m.an).length : Int) < ((m.an).length : Int) := by omega
          have HF2 : Hid (F = (([] : List Rm) ++ m.an).filter vTs) := by have := HF.out; rw [List.take_length] at this; exact this
          have Z := Nm.hide Fk
          clear HF Fk
          go_wp2
          go_roundw
          case rel => exact ⟨1, 1, F, by go_num, rfl, by decide, by rw [Hid, HF2.out]; simp [preR], Z.out⟩
          case measure => simp [intOf]
    · obtain rfl : z = 1 := HZ.out
      clear ix0 ix2
      go_wp2_with fail
      go_loopw [5, 20] (fun vf vi wr => ∃ (i : Nat) (F : List Rm), vi = .int .i64 i ∧ i ≤ (m.au).length ∧ Hid (F = (m.an ++ (m.au).take i).filter vTs) ∧ FSt w wr #[.int .i64 i0, .bool t15, .int .i64 i2, .bool t10, .bool t9, .bool t8, .bool t7, .bool t6, .bool t5, .bool t4, .int .i64 i10, .slice qa m.qs.length qc, .slice aa m.an.length ac, .slice ua m.au.length uc, .slice xa m.ex.length xc] vf F) (fun _ vi _ => (m.au).length - (intOf vi).toNat)
      case atStart => exact ⟨0, F, rfl, Nat.zero_le _, by rw [Hid, HF.out]; simp [preR], Fq⟩
      case round =>
        clear Fq HF
        obtain ⟨i, F, rfl, hi, HF, Fk⟩ := hrel
        by_cases hlt : i < (m.au).length
        · obtain ⟨x, hx⟩ : ∃ x, (m.au)[i]? = some x := ⟨_, List.getElem?_eq_getElem hlt⟩
          obtain ⟨b, off, rfl, hcell⟩ := huc (by omega)
          have put : ∀ {O : Nat} {z : Value}, w.cell? ⟨b, O, none⟩ = some z → wr.cell? ⟨b, O, none⟩ = some z := fun h => (Fk.be.cell (World.block_lt_of_cell? w _ h)).trans h
          have e0 : wr.cell? ⟨b, off + i * 5, none⟩ = some (.string ⟨x.owner.toArray⟩) := put (hcell _ _ (rrCs_at m.au i 0 x hx (by decide)))
          have e1 : wr.cell? ⟨b, off + i * 5 + 1, none⟩ = some (.int .i64 (x.ty : Int)) := put (hcell _ _ (rrCs_at m.au i 1 x hx (by decide)))
          have e2 : wr.cell? ⟨b, off + i * 5 + 2, none⟩ = some (.int .i64 (x.cl : Int)) := put (hcell _ _ (rrCs_at m.au i 2 x hx (by decide)))
          have e3 : wr.cell? ⟨b, off + i * 5 + 3, none⟩ = some (.int .i64 (x.ttl : Int)) := put (hcell _ _ (rrCs_at m.au i 3 x hx (by decide)))
          have e4 : wr.cell? ⟨b, off + i * 5 + 4, none⟩ = some (.string ⟨x.dat.toArray⟩) := put (hcell _ _ (rrCs_at m.au i 4 x hx (by decide)))
          have j1 : (0 : Int) ≤ (i : Int) := by omega
          have j2 : (i : Int) < ((m.au).length : Int) := by omega
          have hA := (Below.refl wr.heap.size wr).alloc (Nat.le_refl _) (.cells #[.string ⟨x.owner.toArray⟩, .int .i64 (x.ty : Int), .int .i64 (x.cl : Int), .int .i64 (x.ttl : Int), .string ⟨x.dat.toArray⟩] 56)
          have F2 := Fk.below hA
          have hlen : F.length ≤ 1200 := by
            rw [HF.out]
            refine Nat.le_trans (List.length_filter_le _ _) ?_
            simp
            omega
          have HRC : Hid (rrC x = [.string ⟨x.owner.toArray⟩, .int .i64 (x.ty : Int), .int .i64 (x.cl : Int), .int .i64 (x.ttl : Int), .string ⟨x.dat.toArray⟩]) := by rw [Hid]; rfl
          have hsz := Fk.be.size
          have HST := Nm.hide (filt_step (pre := m.an) hx)
          cases ht : vTs x with
          | false =>
            have ht' : ((x.ty : Int) == 250) = false := by simp only [vTs, decide_eq_false_iff_not] at ht; rw [beq_eq_false_iff_ne]; omega
            have HN : Hid (F = (m.an ++ (m.au).take (i + 1)).filter vTs) := by rw [Hid, HST.out, ht, HF.out]; simp
            have Z := Nm.hide F2
            clear HF HST hx ht put hcell Fk F2 hA HRC
            generalize (⟨x.owner.toArray⟩ : ByteArray) = d1 at *
            generalize (⟨x.dat.toArray⟩ : ByteArray) = d5 at *
            go_wp2
            go_roundw
            case rel => exact ⟨i + 1, F, by go_num, by omega, HN, Z.out⟩
            case measure => simp [intOf]; omega
          | true =>
            have ht' : ((x.ty : Int) == 250) = true := by simp only [vTs, decide_eq_true_eq] at ht; rw [ht]; rfl
            have HN : Hid (F ++ [x] = (m.an ++ (m.au).take (i + 1)).filter vTs) := by rw [Hid, HST.out, ht, HF.out]; simp
            have oF := F2.own
            have Z := Nm.hide F2
            clear HF HST hx ht put hcell Fk F2 hA
            generalize (⟨x.owner.toArray⟩ : ByteArray) = d1 at *
            generalize (⟨x.dat.toArray⟩ : ByteArray) = d5 at *
            generalize (x.ty : Int) = d2 at *
            generalize (x.cl : Int) = d3 at *
            generalize (x.ttl : Int) = d4 at *
            go_wp2_with (at_builtin; refine wpList_append_own _ rfl (.tmp 27) (.tmp 29) 33 rfl w.heap.size 56 j0 (.agg #[.string ByteArray.empty, .int .i64 0, .int .i64 0, .int .i64 0, .string ByteArray.empty]) 5 56 Try.underlying33 hj kz0 kz1 kz2 rfl (by decide) _ _ _ rfl (oF.alloc _) ⟨wr.heap.size + 1, 0, none⟩ 1 1 [.string d1, .int .i64 d2, .int .i64 d3, .int .i64 d4, .string d5] rfl rfl (by have := cell_newL (wr.alloc (.cells #[.string d1, .int .i64 d2, .int .i64 d3, .int .i64 d4, .string d5] 56)) [.string d1, .int .i64 d2, .int .i64 d3, .int .i64 d4, .string d5] 56; rw [World.size_alloc] at this; exact this) (by intro u hu; simp at hu; rcases hu with rfl | rfl | rfl | rfl | rfl <;> rfl) (by unfold maxLen; omega) (by omega) (by simp; omega) ?_; intro vb wb hown8 hgrow8 hnl8; clear hnl8; rw [← HRC.out] at hown8; have Z2 := Nm.hide (FSt.app (Z.out.below ((Below.refl _ _).alloc (Nat.le_refl _) _)) hown8 hgrow8); clear hgrow8 hown8 oF Z)
            go_roundw
            case rel => exact ⟨i + 1, F ++ [x], by go_num, by omega, HN, Z2.out⟩
            case measure => simp [intOf]; omega
        · have hie : i = (m.au).length := by omega
          subst hie
          have j2 : ¬ ((m.au).length : Int) < ((m.au).length : Int) := by omega
          have HF2 : Hid (F = (m.an ++ m.au).filter vTs) := by have := HF.out; rw [List.take_length] at this; exact this
          have Z := Nm.hide Fk
          clear HF Fk
          go_wp2
          go_roundw
          case rel => exact ⟨2, 2, F, by go_num, rfl, by decide, by rw [Hid, HF2.out]; simp [preR], Z.out⟩
          case measure => simp [intOf]
    · obtain rfl : z = 2 := HZ.out
      clear ix0 ix1
      go_wp2_with fail
      go_loopw [5, 20] (fun vf vi wr => ∃ (i : Nat) (F : List Rm), vi = .int .i64 i ∧ i ≤ (m.ex).length ∧ Hid (F = ((m.an ++ m.au) ++ (m.ex).take i).filter vTs) ∧ FSt w wr #[.int .i64 i0, .bool t15, .int .i64 i2, .bool t10, .bool t9, .bool t8, .bool t7, .bool t6, .bool t5, .bool t4, .int .i64 i10, .slice qa m.qs.length qc, .slice aa m.an.length ac, .slice ua m.au.length uc, .slice xa m.ex.length xc] vf F) (fun _ vi _ => (m.ex).length - (intOf vi).toNat)
      case atStart => exact ⟨0, F, rfl, Nat.zero_le _, by rw [Hid, HF.out]; simp [preR], Fq⟩
      case round =>
        clear Fq HF
        obtain ⟨i, F, rfl, hi, HF, Fk⟩ := hrel
        by_cases hlt : i < (m.ex).length
        · obtain ⟨x, hx⟩ : ∃ x, (m.ex)[i]? = some x := ⟨_, List.getElem?_eq_getElem hlt⟩
          obtain ⟨b, off, rfl, hcell⟩ := hxc (by omega)
          have put : ∀ {O : Nat} {z : Value}, w.cell? ⟨b, O, none⟩ = some z → wr.cell? ⟨b, O, none⟩ = some z := fun h => (Fk.be.cell (World.block_lt_of_cell? w _ h)).trans h
          have e0 : wr.cell? ⟨b, off + i * 5, none⟩ = some (.string ⟨x.owner.toArray⟩) := put (hcell _ _ (rrCs_at m.ex i 0 x hx (by decide)))
          have e1 : wr.cell? ⟨b, off + i * 5 + 1, none⟩ = some (.int .i64 (x.ty : Int)) := put (hcell _ _ (rrCs_at m.ex i 1 x hx (by decide)))
          have e2 : wr.cell? ⟨b, off + i * 5 + 2, none⟩ = some (.int .i64 (x.cl : Int)) := put (hcell _ _ (rrCs_at m.ex i 2 x hx (by decide)))
          have e3 : wr.cell? ⟨b, off + i * 5 + 3, none⟩ = some (.int .i64 (x.ttl : Int)) := put (hcell _ _ (rrCs_at m.ex i 3 x hx (by decide)))
          have e4 : wr.cell? ⟨b, off + i * 5 + 4, none⟩ = some (.string ⟨x.dat.toArray⟩) := put (hcell _ _ (rrCs_at m.ex i 4 x hx (by decide)))
          have j1 : (0 : Int) ≤ (i : Int) := by omega
          have j2 : (i : Int) < ((m.ex).length : Int) := by omega
          have hA := (Below.refl wr.heap.size wr).alloc (Nat.le_refl _) (.cells #[.string ⟨x.owner.toArray⟩, .int .i64 (x.ty : Int), .int .i64 (x.cl : Int), .int .i64 (x.ttl : Int), .string ⟨x.dat.toArray⟩] 56)
          have F2 := Fk.below hA
          have hlen : F.length ≤ 1200 := by
            rw [HF.out]
            refine Nat.le_trans (List.length_filter_le _ _) ?_
            simp
            omega
          have HRC : Hid (rrC x = [.string ⟨x.owner.toArray⟩, .int .i64 (x.ty : Int), .int .i64 (x.cl : Int), .int .i64 (x.ttl : Int), .string ⟨x.dat.toArray⟩]) := by rw [Hid]; rfl
          have hsz := Fk.be.size
          have HST := Nm.hide (filt_step (pre := (m.an ++ m.au)) hx)
          cases ht : vTs x with
          | false =>
            have ht' : ((x.ty : Int) == 250) = false := by simp only [vTs, decide_eq_false_iff_not] at ht; rw [beq_eq_false_iff_ne]; omega
            have HN : Hid (F = ((m.an ++ m.au) ++ (m.ex).take (i + 1)).filter vTs) := by rw [Hid, HST.out, ht, HF.out]; simp
            have Z := Nm.hide F2
            clear HF HST hx ht put hcell Fk F2 hA HRC
            generalize (⟨x.owner.toArray⟩ : ByteArray) = d1 at *
            generalize (⟨x.dat.toArray⟩ : ByteArray) = d5 at *
            go_wp2
            go_roundw
            case rel => exact ⟨i + 1, F, by go_num, by omega, HN, Z.out⟩
            case measure => simp [intOf]; omega
          | true =>
            have ht' : ((x.ty : Int) == 250) = true := by simp only [vTs, decide_eq_true_eq] at ht; rw [ht]; rfl
            have HN : Hid (F ++ [x] = ((m.an ++ m.au) ++ (m.ex).take (i + 1)).filter vTs) := by rw [Hid, HST.out, ht, HF.out]; simp
            have oF := F2.own
            have Z := Nm.hide F2
            clear HF HST hx ht put hcell Fk F2 hA
            generalize (⟨x.owner.toArray⟩ : ByteArray) = d1 at *
            generalize (⟨x.dat.toArray⟩ : ByteArray) = d5 at *
            generalize (x.ty : Int) = d2 at *
            generalize (x.cl : Int) = d3 at *
            generalize (x.ttl : Int) = d4 at *
            go_wp2_with (at_builtin; refine wpList_append_own _ rfl (.tmp 27) (.tmp 29) 33 rfl w.heap.size 56 j0 (.agg #[.string ByteArray.empty, .int .i64 0, .int .i64 0, .int .i64 0, .string ByteArray.empty]) 5 56 Try.underlying33 hj kz0 kz1 kz2 rfl (by decide) _ _ _ rfl (oF.alloc _) ⟨wr.heap.size + 1, 0, none⟩ 1 1 [.string d1, .int .i64 d2, .int .i64 d3, .int .i64 d4, .string d5] rfl rfl (by have := cell_newL (wr.alloc (.cells #[.string d1, .int .i64 d2, .int .i64 d3, .int .i64 d4, .string d5] 56)) [.string d1, .int .i64 d2, .int .i64 d3, .int .i64 d4, .string d5] 56; rw [World.size_alloc] at this; exact this) (by intro u hu; simp at hu; rcases hu with rfl | rfl | rfl | rfl | rfl <;> rfl) (by unfold maxLen; omega) (by omega) (by simp; omega) ?_; intro vb wb hown8 hgrow8 hnl8; clear hnl8; rw [← HRC.out] at hown8; have Z2 := Nm.hide (FSt.app (Z.out.below ((Below.refl _ _).alloc (Nat.le_refl _) _)) hown8 hgrow8); clear hgrow8 hown8 oF Z)
            go_roundw
            case rel => exact ⟨i + 1, F ++ [x], by go_num, by omega, HN, Z2.out⟩
            case measure => simp [intOf]; omega
        · have hie : i = (m.ex).length := by omega
          subst hie
          have j2 : ¬ ((m.ex).length : Int) < ((m.ex).length : Int) := by omega
          have HF2 : Hid (F = ((m.an ++ m.au) ++ m.ex).filter vTs) := by have := HF.out; rw [List.take_length] at this; exact this
          have Z := Nm.hide Fk
          clear HF Fk
          go_wp2
          go_roundw
          case rel => exact ⟨3, 3, F, by go_num, rfl, by decide, by rw [Hid, HF2.out]; simp [preR], Z.out⟩
          case measure => simp [intOf]
    · obtain rfl : z = 3 := HZ.out
      clear ix0 ix1 ix2 hac huc
      have HFA : Hid (F = (allR m).filter vTs) := HF.out
      clear HF
      obtain ⟨fa, fc, rfl⟩ := own_sl Fq.own
      have hin := sgI_info sg0 sg0_size
      have hon : sg0.all (·.oneCell') = true := sgA_one _ _ _ _ _
      have hlt0 := blk_lt Fq.kq
      have HQ := Nm.hide Fq
      have kq := Fq.kq
      have be := Fq.be
      have rr := fun i => blk_cell Fq.kp i
      clear Fq
      by_cases h0 : F.length = 0
      · have h0' : ((F.length : Int) == 0) = true := by rw [beq_iff_eq]; omega
        have HR : Hid (fsV m = (sg0, false, 0)) := fsV_nil (HFA.out.symm.trans (List.length_eq_zero_iff.1 h0))
        clear h0 HFA HQ hxc
        go_wp2_with (refine wpList_store_blk (.tmp 2) (.tmp 36) 73 rfl rfl rfl (w.heap.size + 1) _ _ kq rfl rfl hin rfl hon ?_; intro w' k' o'; clear kq)
        refine bodyPost_ret (v := .tuple #[.agg sg0, .bool false, .int .i64 0]) (run_results_row3 rfl (by rfl) (by rfl) (by rfl) k' Try.underlying73 rfl hin) (by rfl) ⟨?_, o'.below be (by omega) be.size⟩
        rw [HR.out]
      · have h0' : ((F.length : Int) == 0) = false := by rw [beq_eq_false_iff_ne]; omega
        by_cases h1 : 1 < F.length
        · have h1' : (1 : Int) < (F.length : Int) := by omega
          have HR : Hid (fsV m = (sg0, false, 32)) := fsV_many (by rw [← HFA.out]; exact h1)
          clear h0 h1 HFA HQ hxc
          go_wp2_with (refine wpList_store_blk (.tmp 2) (.tmp 57) 73 rfl rfl rfl (w.heap.size + 1) _ _ kq rfl rfl hin rfl hon ?_; intro w' k' o'; clear kq)
          refine bodyPost_ret (v := .tuple #[.agg sg0, .bool false, .int .i64 32]) (run_results_row3 rfl (by rfl) (by rfl) (by rfl) k' Try.underlying73 rfl hin) (by rfl) ⟨?_, o'.below be (by omega) be.size⟩
          rw [HR.out]
        · have hF1 : F.length = 1 := by omega
          obtain ⟨r, rfl⟩ : ∃ r, F = [r] := by
            match F, hF1 with
            | [r], _ => exact ⟨r, rfl⟩
          have HE : Hid ((allR m).filter vTs = [r]) := HFA.out.symm
          have hrt : vTs r = true := by
            have : r ∈ (allR m).filter vTs := by rw [HE.out]; simp
            exact (List.mem_filter.1 this).2
          clear h0 h1 hF1 HFA h0'
          by_cases hxl : m.ex.length = 0
          · have HR : Hid (fsV m = (sg0, false, 32)) := fsV_none HE.out (by rw [List.length_eq_zero_iff.1 hxl]; rfl)
            have hxl' : (m.ex.length : Int) - 1 < 0 := by omega
            clear HQ hxc hxl
            go_wp2_with (refine wpList_store_blk (.tmp 2) (.tmp 57) 73 rfl rfl rfl (w.heap.size + 1) _ _ kq rfl rfl hin rfl hon ?_; intro w' k' o'; clear kq)
            refine bodyPost_ret (v := .tuple #[.agg sg0, .bool false, .int .i64 32]) (run_results_row3 rfl (by rfl) (by rfl) (by rfl) k' Try.underlying73 rfl hin) (by rfl) ⟨?_, o'.below be (by omega) be.size⟩
            rw [HR.out]
          · obtain ⟨L, hL⟩ : ∃ L, m.ex.length = L + 1 := ⟨m.ex.length - 1, by omega⟩
            obtain ⟨x, hx⟩ : ∃ x, m.ex[L]? = some x := ⟨_, List.getElem?_eq_getElem (by omega)⟩
            have hgl : m.ex.getLast? = some x := by rw [List.getLast?_eq_getElem?, hL]; exact hx
            obtain ⟨b, off, rfl, hcell⟩ := hxc (by omega)
            have c1 : wr.cell? ⟨b, off + L * 5 + 1, none⟩ = some (.int .i64 (x.ty : Int)) := (be.cell (World.block_lt_of_cell? w _ (hcell _ _ (rrCs_at m.ex L 1 x hx (by decide))))).trans (hcell _ _ (rrCs_at m.ex L 1 x hx (by decide)))
            have hL1 : (m.ex.length : Int) - 1 = (L : Int) := by omega
            have hL2 : ¬ (L : Int) < 0 := by omega
            have hL3 : (0 : Int) ≤ (L : Int) := by omega
            have hL4 : (L : Int) < (m.ex.length : Int) := by omega
            clear hcell hxc hx hxl hL
            cases ht : vTs x with
            | false =>
              have ht' : ((x.ty : Int) != 250) = true := by simp only [vTs, decide_eq_false_iff_not] at ht; rw [bne_iff_ne]; omega
              have HR : Hid (fsV m = (sg0, false, 32)) := fsV_not HE.out hgl ht
              clear HQ hgl ht
              go_wp2_with (refine wpList_store_blk (.tmp 2) (.tmp 57) 73 rfl rfl rfl (w.heap.size + 1) _ _ kq rfl rfl hin rfl hon ?_; intro w' k' o'; clear kq)
              refine bodyPost_ret (v := .tuple #[.agg sg0, .bool false, .int .i64 32]) (run_results_row3 rfl (by rfl) (by rfl) (by rfl) k' Try.underlying73 rfl hin) (by rfl) ⟨?_, o'.below be (by omega) be.size⟩
              rw [HR.out]
            | true =>
              have ht' : ((x.ty : Int) != 250) = false := by simp only [vTs, decide_eq_true_eq] at ht; rw [ht]; rfl
              have HR := Nm.hide (fsV_one HE.out hgl ht)
              clear HE hgl ht
              have hrow := CRow.of_owns HQ.out.own
              obtain ⟨_, fa', fc', efc, _, _, hfcc⟩ := hrow
              cases efc
              obtain ⟨fb, fo, rfl, hfc⟩ := hfcc (by simp)
              have g0 : wr.cell? ⟨fb, fo, none⟩ = some (.string ⟨r.owner.toArray⟩) := hfc 0 _ rfl
              have g1 : wr.cell? ⟨fb, fo + 1, none⟩ = some (.int .i64 (r.ty : Int)) := hfc 1 _ rfl
              have g2 : wr.cell? ⟨fb, fo + 2, none⟩ = some (.int .i64 (r.cl : Int)) := hfc 2 _ rfl
              have g3 : wr.cell? ⟨fb, fo + 3, none⟩ = some (.int .i64 (r.ttl : Int)) := hfc 3 _ rfl
              have g4 : wr.cell? ⟨fb, fo + 4, none⟩ = some (.string ⟨r.dat.toArray⟩) := hfc 4 _ rfl
              obtain ⟨SX, eSX⟩ : ∃ S, S = (if r.dat.length = 61 then sgR r else sg0) := ⟨_, rfl⟩
              have RS := fun W => readSig_any r W hrt
              rw [← eSX] at RS
              have hszX : SX.size = 36 := by
                rw [eSX]
                split
                · exact sgA_size (by simp [sS]; omega)
                · exact sg0_size
              have hinX := sgI_info SX hszX
              have honX : SX.all (·.oneCell') = true := by
                rw [eSX]
                split
                · exact sgA_one _ _ _ _ _
                · exact hon
              have HSX : Hid (datB r = true → SX = sgR r) := by
                intro hdb
                rw [eSX, if_pos (datB_len hdb)]
              have hss : sg0.size = SX.size := by rw [hszX]; exact sg0_size
              clear hfc hfcc HQ hrt eSX hszX
              generalize (⟨r.owner.toArray⟩ : ByteArray) = d1 at *
              generalize (⟨r.dat.toArray⟩ : ByteArray) = d5 at *
              generalize (r.ty : Int) = d2 at *
              generalize (r.cl : Int) = d3 at *
              generalize (r.ttl : Int) = d4 at *
              go_wp2_with fail
              refine (RS _).mono ?_
              rintro e w2 ⟨rfl, b2⟩
              have kN := blk_new w2 sg0 73
              have kq2 := blk_alloc (blk_below kq b2) (.cells sg0 73)
              have be2 := (Nm.below_two be b2).alloc (Nm.below_two be b2).size (.cells sg0 73)
              have hlt2 := b2.size
              have hsz2 : (w2.alloc (.cells sg0 73)).heap.size = w2.heap.size + 1 := World.size_alloc _ _
              have HS2 := Nm.hide hsz2
              have hq := Nm.hide (show w.heap.size + 1 < w2.heap.size by omega)
              clear RS rr g0 g1 g2 g3 g4 c1 kq be b2 hsz2 hlt2
              cases hdb : datB r with
              | false =>
                rw [hdb] at HR
                go_wp2_with (first
                  | (refine wpList_store_blk (.tmp 11) (.tmp 63) 73 rfl rfl rfl w2.heap.size _ _ kN rfl rfl hinX hss honX ?_; intro w3 k3 o3; have kq3 := o3.blk kq2 (by have := hq.out; omega); have be3 := o3.below be2 (by have := hq.out; omega) be2.size; clear o3 kN kq2 be2)
                  | (refine wpList_store_blk (.tmp 2) (.tmp 67) 73 rfl rfl rfl (w.heap.size + 1) _ _ kq3 rfl rfl hin rfl hon ?_; intro w4 k4 o4; clear kq3 k3))
                refine bodyPost_ret (v := .tuple #[.agg sg0, .bool false, .int .i64 32]) (run_results_row3 rfl (by rfl) (by rfl) (by rfl) k4 Try.underlying73 rfl hin) (by rfl) ⟨?_, o4.below be3 (by omega) be3.size⟩
                rw [HR.out]
                rfl
              | true =>
                rw [hdb] at HR
                go_wp2_with (first
                  | (refine wpList_store_blk (.tmp 11) (.tmp 63) 73 rfl rfl rfl w2.heap.size _ _ kN rfl rfl hinX hss honX ?_; intro w3 k3 o3; have kq3 := o3.blk kq2 (by have := hq.out; omega); have be3 := o3.below be2 (by have := hq.out; omega) be2.size; clear o3 kN kq2 be2)
                  | (refine wpList_load_blk (.tmp 11) 73 rfl rfl w2.heap.size _ _ k3 rfl Try.underlying73 rfl hinX ?_)
                  | (refine wpList_store_blk (.tmp 2) (.tmp 68) 73 rfl rfl rfl (w.heap.size + 1) _ _ kq3 rfl rfl hinX hss honX ?_; intro w4 k4 o4; clear kq3 k3))
                refine bodyPost_ret (v := .tuple #[.agg SX, .bool true, .int .i64 0]) (run_results_row3 rfl (by rfl) (by rfl) (by rfl) k4 Try.underlying73 rfl hinX) (by rfl) ⟨?_, o4.below be3 (by omega) be3.size⟩
                rw [HR.out, HSX.out hdb]
                rfl
end Go.Proofs.Ytilcbdhcojgcbaa
