import Derived.Test.YthhagapmcbkeiaaMvS
import Derived.Test.YthhagapmcbkeiaaJVrI
/- impl.validMessage by its contract. -/
namespace Go.Proofs.Ythhagapmcbkeiaa
open Go.RowKit
set_option linter.unusedVariables false

/-- The lists of records, in their order. -/
def lsOf (m : Mg) : Nat → List Rr
  | 0 => m.an
  | 1 => m.au
  | _ => m.ex

theorem idx3 {a u x : Value} {n1 n2 n3 : Nat} (e1 : ∃ b c, a = .slice b n1 c) (e2 : ∃ b c, u = .slice b n2 c) (e3 : ∃ b c, x = .slice b n3 c) (j : Nat) (hj : j < 3) : ∃ v, (v = a ∧ j = 0 ∨ v = u ∧ j = 1 ∨ v = x ∧ j = 2) ∧ ∀ W, (Instr.index 85 (.agg #[a, u, x]) (.int .i64 (j : Int))).run Try.prog W = .ok v W := by
  obtain ⟨b1, c1, rfl⟩ := e1
  obtain ⟨b2, c2, rfl⟩ := e2
  obtain ⟨b3, c3, rfl⟩ := e3
  rcases j with _ | _ | _ | j
  · exact ⟨_, .inl ⟨rfl, rfl⟩, fun W => by simp [Instr.index, run_underlying Try.underlying85, asIntOf, go_sem]⟩
  · exact ⟨_, .inr (.inl ⟨rfl, rfl⟩), fun W => by simp [Instr.index, run_underlying Try.underlying85, asIntOf, go_sem]⟩
  · exact ⟨_, .inr (.inr ⟨rfl, rfl⟩), fun W => by simp [Instr.index, run_underlying Try.underlying85, asIntOf, go_sem]⟩
  · omega

/-- The list of number j, where it is read. -/
theorem list_at {w : World} {m : Mg} {q a u x : Value} (h : MRow w m q a u x) (hm : MSmall m) (j : Nat) (hj : j < 3) : ∃ la lc, CRow w (.slice la (lsOf m j).length lc) (lsOf m j).length 5 (rvVs (lsOf m j)) ∧ (∀ r ∈ lsOf m j, r.own.size ≤ 1048576 ∧ r.da.size ≤ 1048576) ∧ (lsOf m j).length ≤ 1048576 ∧ ∀ W, (Instr.index 85 (.agg #[a, u, x]) (.int .i64 (j : Int))).run Try.prog W = .ok (.slice la (lsOf m j).length lc) W := by
  obtain ⟨_, s2, s3, s4, _, l2, l3, l4⟩ := hm
  obtain ⟨v, hv, hrun⟩ := idx3 (n1 := m.an.length) (n2 := m.au.length) (n3 := m.ex.length) (a := a) (u := u) (x := x) (by obtain ⟨_, b, c, e, _⟩ := h.ra; exact ⟨b, c, e⟩) (by obtain ⟨_, b, c, e, _⟩ := h.ru; exact ⟨b, c, e⟩) (by obtain ⟨_, b, c, e, _⟩ := h.rx; exact ⟨b, c, e⟩) j hj
  rcases hv with ⟨rfl, rfl⟩ | ⟨rfl, rfl⟩ | ⟨rfl, rfl⟩
  · have hr := h.ra
    obtain ⟨_, b, c, rfl, _⟩ := h.ra
    exact ⟨b, c, hr, s2, l2, hrun⟩
  · have hr := h.ru
    obtain ⟨_, b, c, rfl, _⟩ := h.ru
    exact ⟨b, c, hr, s3, l3, hrun⟩
  · have hr := h.rx
    obtain ⟨_, b, c, rfl, _⟩ := h.rx
    exact ⟨b, c, hr, s4, l4, hrun⟩

set_option maxRecDepth 100000 in
set_option maxHeartbeats 6400000 in
theorem validMessage_any (m : Mg) (q a u x : Value) (w : World) (h : MRow w m q a u x) (hm : MSmall m) :
    Calls Try.prog 17 #[.agg (mgV m.hd q a u x)] w fun e w' => e = .returned (.bool (mgOK m)) ∧ Below w.heap.size w w' := by
  have hla := fun j hj => list_at h hm j hj
  have hB0 := (Below.refl w.heap.size w).alloc (Nat.le_refl _) (.cells (mgV m.hd q a u x) 37)
  have kb := blk_new w (mgV m.hd q a u x) 37
  have hhd := fun W => validHead_any m.hd W
  have hli := fun W => lists_any (n1 := m.qs.length) (n2 := m.an.length) (n3 := m.au.length) (n4 := m.ex.length) m.hd q a u x W (by obtain ⟨_, b, c, e, _⟩ := h.rq; exact ⟨b, c, e⟩) (by obtain ⟨_, b, c, e, _⟩ := h.ra; exact ⟨b, c, e⟩) (by obtain ⟨_, b, c, e, _⟩ := h.ru; exact ⟨b, c, e⟩) (by obtain ⟨_, b, c, e, _⟩ := h.rx; exact ⟨b, c, e⟩)
  obtain ⟨s1, _, _, _, l1, l2, l3, l4⟩ := hm
  have hvq := fun (r : Qr) (hr : r ∈ m.qs) W => validQuestion_any r W (s1 r hr)
  obtain ⟨RES, HRES⟩ : ∃ R, Hid (R = (decide (m.qs.length + m.an.length + m.au.length + m.ex.length ≤ 400) && hdOK m.hd && m.qs.all quOK && m.an.all rcOK && m.au.all rcOK && m.ex.all rcOK)) := ⟨_, rfl⟩
  have hgoal : mgOK m = RES := by rw [HRES.out]; rfl
  rw [hgoal]
  have HNO : Hid (∀ j, j < 3 → (lsOf m j).all rcOK = false → RES = false) := by
    intro j hj hf
    rw [HRES.out]
    rcases j with _ | _ | _ | j
    · simp only [lsOf] at hf; rw [hf]; simp
    · simp only [lsOf] at hf; rw [hf]; simp
    · simp only [lsOf] at hf; rw [hf]; simp
    · omega
  have HYE : Hid (decide (m.qs.length + m.an.length + m.au.length + m.ex.length ≤ 400) = true → hdOK m.hd = true → m.qs.all quOK = true → (∀ j, j < 3 → (lsOf m j).all rcOK = true) → RES = true) := by
    intro h1 h2 h3 h4
    have a1 := h4 0 (by decide)
    have a2 := h4 1 (by decide)
    have a3 := h4 2 (by decide)
    simp only [lsOf] at a1 a2 a3
    rw [HRES.out, h1, h2, h3, a1, a2, a3]; rfl
  clear hgoal
  generalize hLS : lsOf m = LS at *
  clear hLS
  obtain ⟨_, qa, qc, rfl, hqcap, hqmx, hqc⟩ := h.rq
  obtain ⟨_, aa, ac, rfl, _⟩ := h.ra
  obtain ⟨_, ua, uc, rfl, _⟩ := h.ru
  obtain ⟨_, xa, xc, rfl, _⟩ := h.rx
  clear h s1
  unfold maxLen at hqmx
  obtain ⟨⟨i0, b1, i2, b3, b4, b5, b6, b7, b8, b9, i10⟩, qs, an, au, ex⟩ := m
  simp only [mgV, hrV] at *
  generalize hdOK ⟨i0, b1, i2, b3, b4, b5, b6, b7, b8, b9, i10⟩ = HB at *
  by_cases hbig : 400 < qs.length + an.length + au.length + ex.length
  · obtain rfl : RES = false := by rw [HRES.out, decide_eq_false (by omega)]; rfl
    have hbig' : (400 : Int) < (qs.length : Int) + (an.length : Int) + (au.length : Int) + (ex.length : Int) := by omega
    clear HRES hqc hla HNO HYE hvq
    go_enter Try.func17, Try.ntmps17
    go_wp2
    go_ret
    exact ⟨rfl, hB0⟩
  · have hbig' : (qs.length : Int) + (an.length : Int) + (au.length : Int) + (ex.length : Int) ≤ 400 := by omega
    have hsml : decide (qs.length + an.length + au.length + ex.length ≤ 400) = true := decide_eq_true (by omega)
    cases HB with
    | false =>
      obtain rfl : RES = false := by rw [HRES.out]; simp
      clear HRES hqc hla HNO HYE hvq
      go_enter Try.func17, Try.ntmps17
      go_wp2_with (go_at_call 31; refine (hhd _).mono ?_; rintro e w1 ⟨rfl, hb1⟩)
      go_ret
      exact ⟨rfl, Nm.below_two hB0 hb1⟩
    | true =>
      have HNQ : Hid (qs.all quOK = false → RES = false) := by
        intro hf
        rw [HRES.out, hf]; simp
      have HYE2 : Hid (qs.all quOK = true → (∀ j, j < 3 → (LS j).all rcOK = true) → RES = true) := fun h3 h4 => HYE.out hsml rfl h3 h4
      clear HRES HYE hsml
      go_enter Try.func17, Try.ntmps17
      go_wp2_with (go_at_call 31; refine (hhd _).mono ?_; rintro e w1 ⟨rfl, hb1⟩; have kr1 := blk_below kb hb1; have g11 := (blk_cell kr1 11).trans rfl)
      have hB1 := Nm.below_two hB0 hb1
      clear kb hB0 hb1 hhd g11
      go_loopw [34] (fun i wr => ∃ k : Nat, k ≤ qs.length ∧ i = .int .i64 k ∧ Hid ((qs.take k).all quOK = true) ∧ Blk wr w.heap.size #[.int .i64 i0, .bool b1, .int .i64 i2, .bool b3, .bool b4, .bool b5, .bool b6, .bool b7, .bool b8, .bool b9, .int .i64 i10, .slice qa qs.length qc, .slice aa an.length ac, .slice ua au.length uc, .slice xa ex.length xc] 37 ∧ Below w.heap.size w wr) (fun i _ => qs.length - (intOf i).toNat)
      case atStart => exact ⟨0, Nat.zero_le _, rfl, by show _ = _; simp, kr1, hB1⟩
      case round =>
        obtain ⟨k, hk, rfl, HA, kr, hbel⟩ := hrel
        clear kr1 hB1
        by_cases hlt : k < qs.length
        · obtain ⟨r, hrk⟩ : ∃ r, qs[k]? = some r := ⟨_, List.getElem?_eq_getElem hlt⟩
          obtain ⟨b, off, rfl, hcell⟩ := hqc (by omega)
          obtain ⟨c0, c1, c2⟩ := qv_cells hcell hrk
          have put : ∀ {O : Nat} {z : Value}, w.cell? ⟨b, O, none⟩ = some z → wr.cell? ⟨b, O, none⟩ = some z := fun h => (hbel.cell (World.block_lt_of_cell? w _ h)).trans h
          replace c0 := put c0
          replace c1 := put c1
          replace c2 := put c2
          have hmem := List.mem_of_getElem? hrk
          have hone := fun W => hvq r hmem W
          have hBq := hbel.alloc hbel.size (.cells #[.string r.nm, .int .i64 r.ty, .int .i64 r.cl] 83)
          have krq := blk_alloc kr (.cells #[.string r.nm, .int .i64 r.ty, .int .i64 r.cl] 83)
          have HY : Hid (quOK r = true → (qs.take (k + 1)).all quOK = true) := by
            intro hok
            rw [all_take' hrk, HA.out, hok]; rfl
          have HZ : Hid (quOK r = false → RES = false) := fun hok => HNQ.out (all_no hmem hok)
          have i1 : (0 : Int) ≤ (k : Int) := by omega
          have i3 : (k : Int) < (qs.length : Int) := by omega
          clear hcell hqc hrk hmem hvq HA hla kr HNO HYE2 HNQ hli
          obtain ⟨o, ty, cl⟩ := r
          simp only at hone hBq krq HY HZ c0 c1 c2
          generalize quOK ⟨o, ty, cl⟩ = M at *
          cases M with
          | false =>
            obtain rfl : RES = false := HZ.out rfl
            go_wp2_with (go_at_call 32; refine (hone _).mono ?_; rintro e w1 ⟨rfl, hb1⟩)
            go_ret
            exact ⟨rfl, Nm.below_two hBq hb1⟩
          | true =>
            have HY2 := Nm.hide (HY.out rfl)
            clear HY HZ
            go_wp2_with (go_at_call 32; refine (hone _).mono ?_; rintro e w1 ⟨rfl, hb1⟩)
            go_roundw
            case rel => exact ⟨k + 1, by omega, by go_num, HY2.out, blk_below krq hb1, Nm.below_two hBq hb1⟩
            case measure => simp [intOf]; omega
        · have hkl : k = qs.length := by omega
          subst hkl
          have i3 : (qs.length : Int) ≤ (qs.length : Int) := by omega
          have hq : qs.all quOK = true := by
            have := HA.out
            rwa [List.take_length] at this
          have HYE3 : Hid ((∀ j, j < 3 → (LS j).all rcOK = true) → RES = true) := fun h4 => HYE2.out hq h4
          clear HA hqc hvq hq HNQ HYE2
          have rr := fun i => blk_cell kr i
          go_wp2_with (go_at_call 33; refine (hli _).mono ?_; rintro e w2 ⟨rfl, hb2⟩)
          have hB2 := Nm.below_two hbel hb2
          clear rr kr hbel hb2 hli
          go_loopw [44] (fun i wr => ∃ j : Nat, j ≤ 3 ∧ i = .int .i64 j ∧ Hid (∀ t, t < j → (LS t).all rcOK = true) ∧ Below w.heap.size w wr) (fun i _ => 3 - (intOf i).toNat)
          case atStart => exact ⟨0, by decide, rfl, fun t ht => absurd ht (Nat.not_lt_zero _), hB2⟩
          case round =>
            obtain ⟨j, hj, rfl, HA, hbel⟩ := hrel
            clear hB2
            by_cases hlt : j < 3
            · obtain ⟨la, lc, hrow, hsz, hlen, hidx⟩ := hla j hlt
              have hvr := fun W (hW : Below w.heap.size w W) => validRecords_any _ (LS j) W (hrow.below hW) hsz
              have i1 : (0 : Int) ≤ (j : Int) := by omega
              have i2 : (j : Int) < 3 := by omega
              have HZ : Hid ((LS j).all rcOK = false → RES = false) := HNO.out j hlt
              have HA2 : Hid ((LS j).all rcOK = true → ∀ t, t < j + 1 → (LS t).all rcOK = true) := by
                intro hok t ht
                by_cases e : t = j
                · subst e; exact hok
                · exact HA.out t (by omega)
              clear hla HNO hsz HA HYE3 hrow
              cases hB : (LS j).all rcOK with
              | false =>
                obtain rfl : RES = false := HZ.out hB
                rw [hB] at hvr
                clear hB HZ HA2
                generalize LS j = xs at *
                go_wp2_with (go_at_call 34; refine (hvr _ hbel).mono ?_; rintro e w1 ⟨rfl, hb1⟩)
                go_ret
                exact ⟨rfl, Nm.below_two hbel hb1⟩
              | true =>
                have HA3 := Nm.hide (HA2.out hB)
                rw [hB] at hvr
                clear hB HZ HA2
                generalize (LS j).length = xl at *
                go_wp2_with (go_at_call 34; refine (hvr _ hbel).mono ?_; rintro e w1 ⟨rfl, hb1⟩)
                go_roundw
                case rel => exact ⟨j + 1, by omega, by go_num, HA3.out, Nm.below_two hbel hb1⟩
                case measure => simp [intOf]; omega
            · have hje : j = 3 := by omega
              subst hje
              obtain rfl : RES = true := HYE3.out HA.out
              clear hla HNO HYE3 HA
              go_wp2
              go_ret
              exact ⟨rfl, hbel⟩
end Go.Proofs.Ythhagapmcbkeiaa
