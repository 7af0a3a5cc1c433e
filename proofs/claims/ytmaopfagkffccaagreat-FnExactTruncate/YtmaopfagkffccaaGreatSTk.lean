import Derived.Test.YtmaopfagkffccaaGreatSDp
import Derived.Test.YtmaopfagkffccaaGreatCrM
import Derived.Test.YtmaopfagkffccaaGreatWtW
/- spec.l13Truncate by its contract. -/
namespace Go.Proofs.YtmaopfagkffccaaGreat
open Go.RowKit
set_option linter.unusedVariables false

/-- A message that is cut lies in block g. -/
structure Stb (w0 w : World) (g : Nat) (m : Mg) (q a u x : Value) : Prop where
  ob : Blk w g (mgV m.hd q a u x) 33
  zb : Blk w (g + 1) #[.int .i64 0, .bool false, .int .i64 0, .bool false, .bool false, .bool false, .bool false, .bool false, .bool false, .bool false, .int .i64 0, .slice none 0 0, .slice none 0 0, .slice none 0 0, .slice none 0 0] 33
  own : MOwn w 0 m q a u x
  be : Below g w0 w
theorem Stb.below {w0 w w' : World} {g : Nat} {m : Mg} {q a u x : Value} (c : Stb w0 w g m q a u x) (hb : Below w.heap.size w w') (hg : g ≤ w.heap.size) : Stb w0 w' g m q a u x :=
  ⟨blk_below c.ob hb, blk_below c.zb hb, c.own.below hb, c.be.trans (hb.mono hg)⟩
theorem Stb.an {w0 w : World} {g B : Nat} {m : Mg} {q a u x a' : Value} {ys : List Rr} (c : Stb w0 w g m q a u x) (h0 : w.ownsRow B 72 5 a' ys.length (rvVs ys)) : Stb w0 (w.setCell ⟨g, 12, none⟩ a') g ⟨m.hd, m.qs, ys, m.au, m.ex⟩ q a' u x :=
  have ho := own_base h0 (Nat.zero_le B)
  ⟨blk_set c.ob 12 a', blk_far c.zb (by omega), ⟨own_far c.own.rq (own_blk c.own.rq c.ob (by decide)), own_far ho (own_blk ho c.ob (by decide)), own_far c.own.ru (own_blk c.own.ru c.ob (by decide)), own_far c.own.rx (own_blk c.own.rx c.ob (by decide))⟩, c.be.setCell (Nat.le_refl g) _⟩
theorem Stb.au {w0 w : World} {g B : Nat} {m : Mg} {q a u x u' : Value} {ys : List Rr} (c : Stb w0 w g m q a u x) (h0 : w.ownsRow B 72 5 u' ys.length (rvVs ys)) : Stb w0 (w.setCell ⟨g, 13, none⟩ u') g ⟨m.hd, m.qs, m.an, ys, m.ex⟩ q a u' x :=
  have ho := own_base h0 (Nat.zero_le B)
  ⟨blk_set c.ob 13 u', blk_far c.zb (by omega), ⟨own_far c.own.rq (own_blk c.own.rq c.ob (by decide)), own_far c.own.ra (own_blk c.own.ra c.ob (by decide)), own_far ho (own_blk ho c.ob (by decide)), own_far c.own.rx (own_blk c.own.rx c.ob (by decide))⟩, c.be.setCell (Nat.le_refl g) _⟩
theorem Stb.ex {w0 w : World} {g B : Nat} {m : Mg} {q a u x x' : Value} {ys : List Rr} (c : Stb w0 w g m q a u x) (h0 : w.ownsRow B 72 5 x' ys.length (rvVs ys)) : Stb w0 (w.setCell ⟨g, 14, none⟩ x') g ⟨m.hd, m.qs, m.an, m.au, ys⟩ q a u x' :=
  have ho := own_base h0 (Nat.zero_le B)
  ⟨blk_set c.ob 14 x', blk_far c.zb (by omega), ⟨own_far c.own.rq (own_blk c.own.rq c.ob (by decide)), own_far c.own.ra (own_blk c.own.ra c.ob (by decide)), own_far c.own.ru (own_blk c.own.ru c.ob (by decide)), own_far ho (own_blk ho c.ob (by decide))⟩, c.be.setCell (Nat.le_refl g) _⟩
theorem Stb.tc {w0 w : World} {g : Nat} {m : Mg} {q a u x : Value} (c : Stb w0 w g m q a u x) : Stb w0 (w.setCell ⟨g, 4, none⟩ (.bool true)) g ⟨tcH m.hd, m.qs, m.an, m.au, m.ex⟩ q a u x :=
  ⟨blk_set c.ob 4 (.bool true), blk_far c.zb (by omega), ⟨own_far c.own.rq (own_blk c.own.rq c.ob (by decide)), own_far c.own.ra (own_blk c.own.ra c.ob (by decide)), own_far c.own.ru (own_blk c.own.ru c.ob (by decide)), own_far c.own.rx (own_blk c.own.rx c.ob (by decide))⟩, c.be.setCell (Nat.le_refl g) _⟩

theorem sd_some {p : Rr → Bool} {v : Value} {xs ys : List Rr} {w : World} {f : Nat} {args : Array Value} (h : Calls Tryz.prog f args w (SdPost p v xs w)) (hy : dropS p xs = some ys) :
    Calls Tryz.prog f args w fun e w' => ∃ u, e = .returned (.tuple #[u, .bool true]) ∧ w'.ownsRow w.heap.size 72 5 u ys.length (rvVs ys) ∧ Below w.heap.size w w' := by
  refine h.mono ?_
  rintro e w' ⟨⟨h1, _⟩ | ⟨zs, u, h1, rfl, h2⟩, h3⟩
  · rw [hy] at h1; cases h1
  · rw [hy] at h1
    cases h1
    exact ⟨u, rfl, h2, h3⟩
theorem sd_none {p : Rr → Bool} {v : Value} {xs : List Rr} {w : World} {f : Nat} {args : Array Value} (h : Calls Tryz.prog f args w (SdPost p v xs w)) (hy : dropS p xs = none) :
    Calls Tryz.prog f args w fun e w' => e = .returned (.tuple #[v, .bool false]) ∧ Below w.heap.size w w' := by
  refine h.mono ?_
  rintro e w' ⟨⟨_, rfl⟩ | ⟨zs, u, h1, _⟩, h3⟩
  · exact ⟨rfl, h3⟩
  · rw [hy] at h1; cases h1

def mzD : Option Value → Nat
  | some (.slice _ n _) => n
  | _ => 0
def mzS (g : Nat) (w : World) : Nat := mzD (w.cell? ⟨g, 12, none⟩) + mzD (w.cell? ⟨g, 13, none⟩) + mzD (w.cell? ⟨g, 14, none⟩)
theorem mzS_is {w0 w : World} {g : Nat} {m : Mg} {q a u x : Value} (h : Stb w0 w g m q a u x) : mzS g w = cntM m := by
  obtain ⟨_, _, e1⟩ := own_sl h.own.ra
  obtain ⟨_, _, e2⟩ := own_sl h.own.ru
  obtain ⟨_, _, e3⟩ := own_sl h.own.rx
  unfold mzS cntM
  rw [(blk_cell h.ob 12).trans rfl, (blk_cell h.ob 13).trans rfl, (blk_cell h.ob 14).trans rfl, e1, e2, e3]
  rfl

set_option maxRecDepth 100000 in
set_option maxHeartbeats 6400000 in
theorem l13Truncate_any (m : Mg) (q a u x : Value) (N : Int) (w : World) (B : Nat) (h : MOwn w B m q a u x) (hok : mgOK m = true) (hs : MSmall m) :
    Calls Tryz.prog 14 #[.agg (mgV m.hd q a u x), .int .i64 N] w fun e w' => ∃ q' a' u' x', e = .returned (.agg (mgV (trM N m).hd q' a' u' x')) ∧ MOwn w' 0 (trM N m) q' a' u' x' ∧ Below w.heap.size w w' := by
  have hB0 := (Below.refl w.heap.size w).alloc (Nat.le_refl _) (.cells (mgV m.hd q a u x) 33)
  have hB1 := hB0.alloc hB0.size (.cells #[.int .i64 0, .bool false, .int .i64 0, .bool false, .bool false, .bool false, .bool false, .bool false, .bool false, .bool false, .int .i64 0, .slice none 0 0, .slice none 0 0, .slice none 0 0, .slice none 0 0] 33)
  have kM := blk_alloc (blk_new w (mgV m.hd q a u x) 33) (.cells #[.int .i64 0, .bool false, .int .i64 0, .bool false, .bool false, .bool false, .bool false, .bool false, .bool false, .bool false, .int .i64 0, .slice none 0 0, .slice none 0 0, .slice none 0 0, .slice none 0 0] 33)
  have kZ := blk_new (w.alloc (.cells (mgV m.hd q a u x) 33)) #[.int .i64 0, .bool false, .int .i64 0, .bool false, .bool false, .bool false, .bool false, .bool false, .bool false, .bool false, .int .i64 0, .slice none 0 0, .slice none 0 0, .slice none 0 0, .slice none 0 0] 33
  rw [World.size_alloc] at kZ
  have ho := h.below hB1
  have S0 : Stb w ((w.alloc (.cells (mgV m.hd q a u x) 33)).alloc (.cells #[.int .i64 0, .bool false, .int .i64 0, .bool false, .bool false, .bool false, .bool false, .bool false, .bool false, .bool false, .int .i64 0, .slice none 0 0, .slice none 0 0, .slice none 0 0, .slice none 0 0] 33)) w.heap.size m q a u x := ⟨kM, kZ, ⟨own_base ho.rq (Nat.zero_le _), own_base ho.ra (Nat.zero_le _), own_base ho.ru (Nat.zero_le _), own_base ho.rx (Nat.zero_le _)⟩, hB1⟩
  have HT0 := Nm.hide (TrAt.start (b := N) hok hs)
  have HM : Hid (∀ mm, TrAt N m mm → ((msgW mm).1.length : Int) ≤ N → trM N m = mm) := fun mm h1 h2 => h1.fit h2
  have HM2 : Hid (∀ mm, TrAt N m mm → shM mm = none → trM N m = mm) := fun mm h1 h2 => h1.last h2
  have HM3 : Hid (∀ mm m', TrAt N m mm → ¬ ((msgW mm).1.length : Int) ≤ N → shM mm = some m' → TrAt N m m') := fun mm m' h1 h2 h3 => h1.step h2 h3
  obtain ⟨TA, hTA⟩ : ∃ T : Mg → Prop, T = TrAt N m := ⟨_, rfl⟩
  have HTA : Hid (∀ mm, TA mm → mgOK mm = true ∧ MSmall mm) := fun mm h1 => by rw [hTA] at h1; exact ⟨h1.1, h1.2.1⟩
  rw [← hTA] at HM HM2 HM3 HT0
  clear hTA
  generalize trM N m = TM at *
  obtain ⟨q1, q2, hq⟩ := own_sl h.rq
  obtain ⟨a1, a2, ha⟩ := own_sl h.ra
  obtain ⟨u1, u2, hu⟩ := own_sl h.ru
  obtain ⟨x1, x2, hx⟩ := own_sl h.rx
  subst hq
  subst ha
  subst hu
  subst hx
  clear h ho hok hs hB0 hB1 kM kZ
  have HS0 : Hid (∃ q a u x, Stb w ((w.alloc (.cells (mgV m.hd (.slice q1 m.qs.length q2) (.slice a1 m.an.length a2) (.slice u1 m.au.length u2) (.slice x1 m.ex.length x2)) 33)).alloc (.cells #[.int .i64 0, .bool false, .int .i64 0, .bool false, .bool false, .bool false, .bool false, .bool false, .bool false, .bool false, .int .i64 0, .slice none 0 0, .slice none 0 0, .slice none 0 0, .slice none 0 0] 33)) w.heap.size m q a u x) := ⟨_, _, _, _, S0⟩
  clear S0
  obtain ⟨mm0, hmm0⟩ : ∃ mm0, mm0 = m := ⟨_, rfl⟩
  rw [← hmm0] at HT0
  have HMM := Nm.hide hmm0
  clear hmm0
  obtain ⟨⟨i0, b1, i2, b3, b4, b5, b6, b7, b8, b9, i10⟩, qs, an, au, ex⟩ := m
  simp only [mgV] at HS0 ⊢
  obtain ⟨q0, a0, u0, x0, S0⟩ := HS0.out
  clear HS0
  go_enter Tryz.func14, Tryz.ntmps14
  go_wp2
  rw [← HMM.out] at S0
  generalize hgg : w.heap.size = g at *
  have HGG := Nm.hide hgg
  clear hgg HMM
  go_loopw [] (fun wr => ∃ mm q' a' u' x', Hid (TA mm) ∧ Stb w wr g mm q' a' u' x') (fun wr => mzS g wr)
  case atStart => exact ⟨mm0, q0, a0, u0, x0, HT0, S0⟩
  case round =>
    clear S0 HT0
    obtain ⟨mm, q4, a4, u4, x4, HTA4, hk⟩ := hrel
    obtain ⟨hmo, hms⟩ := HTA.out mm HTA4.out
    have hgw : g ≤ wr.heap.size := by have h1 := hk.be.size; have h2 := HGG.out; omega
    have hwr := l04Write_any mm q4 a4 u4 x4 wr hk.own.read hms hmo
    have HW : Hid (wr.heap.size = wr.heap.size) := rfl
    have hmz := mzS_is hk
    have HMZ := Nm.hide hmz
    obtain ⟨q41, q42, hq4⟩ := own_sl hk.own.rq
    obtain ⟨a41, a42, ha4⟩ := own_sl hk.own.ra
    obtain ⟨u41, u42, hu4⟩ := own_sl hk.own.ru
    obtain ⟨x41, x42, hx4⟩ := own_sl hk.own.rx
    have hone : (mgV mm.hd q4 a4 u4 x4).all (·.oneCell') = true := by rw [hq4, ha4, hu4, hx4]; kernel_rfl
    obtain ⟨L, hL⟩ : ∃ L, L = (msgW mm).1.length := ⟨_, rfl⟩
    rw [← hL] at hwr
    have HL := Nm.hide hL
    have HSH := Nm.hide (And.intro ha4 (And.intro hu4 hx4))
    clear hmz hL hq4 ha4 hu4 hx4
    by_cases hf : (L : Int) ≤ N
    · have HE : Hid (TM = mm) := HM.out mm HTA4.out (by rw [← HL.out]; exact hf)
      clear HM HM2 HM3
      go_wp2_with (first
        | (refine wpList_load_blk (.tmp 2) 33 rfl rfl g _ _ hk.ob rfl Tryz.underlying33 rfl (by kernel_rfl) ?_)
        | (go_at_call 35; refine hwr.mono ?_; rintro e w4 ⟨v4, rfl, o4, c4⟩; obtain ⟨v41, v42, rfl⟩ := own_sl o4; have hk4 := hk.below c4 hgw)
        | (refine wpList_load_blk (.tmp 2) 33 rfl rfl g _ _ hk4.ob rfl Tryz.underlying33 rfl (by kernel_rfl) ?_)
        | (refine wpList_store_blk (.tmp 4) (.tmp 39) 33 rfl rfl rfl (g + 1) _ _ hk4.zb rfl rfl (by kernel_rfl) rfl hone ?_; intro wz kz oz))
      have hg4 : g ≤ w4.heap.size := by have := c4.size; omega
      rw [HE.out]
      refine bodyPost_ret (v := .agg (mgV mm.hd q4 a4 u4 x4)) (run_results_rowM Tryz.results14 rfl kz Tryz.underlying33 rfl (by kernel_rfl)) rfl ?_
      rw [HGG.out]
      exact ⟨_, _, _, _, rfl, ⟨own_onlyT hk4.own.rq oz hk4.zb, own_onlyT hk4.own.ra oz hk4.zb, own_onlyT hk4.own.ru oz hk4.zb, own_onlyT hk4.own.rx oz hk4.zb⟩, oz.below hk4.be (Nat.le_succ _) hg4⟩
    · obtain ⟨ha4, hu4, hx4⟩ := HSH.out
      subst ha4
      subst hu4
      subst hx4
      have hf2 : N < (L : Int) := Int.not_le.1 hf
      have hf3 : N < ((msgW mm).1.length : Int) := by rw [← HL.out]; exact hf2
      obtain ⟨_, _, _, _, _, l2, l3, l4⟩ := hms
      have dX := fun W (hb : Below wr.heap.size wr W) => l13Drop_on _ mm.ex W ((CRow.of_owns hk.own.rx).below hb) l4
      have dU := fun W (hb : Below wr.heap.size wr W) => l13Drop_off _ mm.au W ((CRow.of_owns hk.own.ru).below hb) l3
      have dA := fun W (hb : Below wr.heap.size wr W) => l13Drop_off _ mm.an W ((CRow.of_owns hk.own.ra).below hb) l2
      cases hX : dropS isO mm.ex with
      | some ys =>
        have hS := shM_ex hX
        have HE : Hid (TA _) := HM3.out mm _ HTA4.out hf3 hS
        have HLT := Nm.hide (shM_lt hS)
        have dX1 := fun W hb => sd_some (dX W hb) hX
        clear HM HM2 HM3 hS dX dU dA hX hf
        go_wp2_with (first
          | (refine wpList_load_blk (.tmp 2) 33 rfl rfl g _ _ hk.ob rfl Tryz.underlying33 rfl (by kernel_rfl) ?_)
          | (go_at_call 35; refine hwr.mono ?_; rintro e w4 ⟨v4, rfl, o4, c4⟩; obtain ⟨v41, v42, rfl⟩ := own_sl o4; have hk4 := hk.below c4 hgw; have rr4 := (fun i => blk_cell hk4.ob i); simp only [mgV] at rr4))
        have hg4 : g ≤ w4.heap.size := by have := c4.size; omega
        try go_wp2_with fail
        refine (dX1 w4 c4).mono ?_
        rintro e w5 ⟨x5, rfl, o5, c5⟩
        obtain ⟨x51, x52, rfl⟩ := own_sl o5
        have hk5 := hk4.below c5 hg4
        have rr5 := fun i => blk_cell hk5.ob i
        simp only [mgV] at rr5
        have rf5 := fun i => blk_frozen hk5.ob i
        have hk6 := hk5.ex o5
        clear rr4
        go_wp2
        go_roundw
        case rel => exact ⟨_, _, _, _, _, HE, hk6⟩
        case measure => rw [mzS_is hk6, HMZ.out]; exact HLT.out
      | none =>
        have dX1 := fun W hb => sd_none (dX W hb) hX
        cases hU : dropS isN mm.au with
        | some ys =>
          have hS := shM_au hX hU
          have HE : Hid (TA _) := HM3.out mm _ HTA4.out hf3 hS
          have HLT := Nm.hide (shM_lt hS)
          have dU1 := fun W hb => sd_some (dU W hb) hU
          clear HM HM2 HM3 hS dX dU dA hX hU hf
          go_wp2_with (first
            | (refine wpList_load_blk (.tmp 2) 33 rfl rfl g _ _ hk.ob rfl Tryz.underlying33 rfl (by kernel_rfl) ?_)
            | (go_at_call 35; refine hwr.mono ?_; rintro e w4 ⟨v4, rfl, o4, c4⟩; obtain ⟨v41, v42, rfl⟩ := own_sl o4; have hk4 := hk.below c4 hgw; have rr4 := (fun i => blk_cell hk4.ob i); simp only [mgV] at rr4))
          have hg4 : g ≤ w4.heap.size := by have := c4.size; omega
          try go_wp2_with fail
          refine (dX1 w4 c4).mono ?_
          rintro e w5 ⟨rfl, c5⟩
          have hk5 := hk4.below c5 hg4
          have c45 := Nm.below_two c4 c5
          have hg5 : g ≤ w5.heap.size := by have := c5.size; omega
          have rr5 := fun i => blk_cell hk5.ob i
          simp only [mgV] at rr5
          have rf5 := fun i => blk_frozen hk5.ob i
          have e5 : w5.setCell ⟨g, 14, none⟩ (.slice x41 mm.ex.length x42) = w5 := set_same hk5.ob rfl
          clear rr4
          go_wp2_with fail
          refine (dU1 w5 c45).mono ?_
          rintro e w6 ⟨u6, rfl, o6, c6⟩
          obtain ⟨u61, u62, rfl⟩ := own_sl o6
          have hk6 := hk5.below c6 hg5
          have rr6 := fun i => blk_cell hk6.ob i
          simp only [mgV] at rr6
          have rf6 := fun i => blk_frozen hk6.ob i
          have hk7 := hk6.au o6
          have rr7 := fun i => blk_cell hk7.ob i
          simp only [mgV] at rr7
          have rf7 := fun i => blk_frozen hk7.ob i
          have hk8 := hk7.tc
          clear rr5 rf5 e5
          go_wp2
          go_roundw
          case rel => exact ⟨_, _, _, _, _, HE, hk8⟩
          case measure => rw [mzS_is hk8, HMZ.out]; exact HLT.out
        | none =>
          have dU1 := fun W hb => sd_none (dU W hb) hU
          cases hA : dropS isN mm.an with
          | some ys =>
            have hS := shM_an hX hU hA
            have HE : Hid (TA _) := HM3.out mm _ HTA4.out hf3 hS
            have HLT := Nm.hide (shM_lt hS)
            have dA1 := fun W hb => sd_some (dA W hb) hA
            clear HM HM2 HM3 hS dX dU dA hX hU hA hf
            go_wp2_with (first
              | (refine wpList_load_blk (.tmp 2) 33 rfl rfl g _ _ hk.ob rfl Tryz.underlying33 rfl (by kernel_rfl) ?_)
              | (go_at_call 35; refine hwr.mono ?_; rintro e w4 ⟨v4, rfl, o4, c4⟩; obtain ⟨v41, v42, rfl⟩ := own_sl o4; have hk4 := hk.below c4 hgw; have rr4 := (fun i => blk_cell hk4.ob i); simp only [mgV] at rr4))
            have hg4 : g ≤ w4.heap.size := by have := c4.size; omega
            try go_wp2_with fail
            refine (dX1 w4 c4).mono ?_
            rintro e w5 ⟨rfl, c5⟩
            have hk5 := hk4.below c5 hg4
            have c45 := Nm.below_two c4 c5
            have hg5 : g ≤ w5.heap.size := by have := c5.size; omega
            have rr5 := fun i => blk_cell hk5.ob i
            simp only [mgV] at rr5
            have rf5 := fun i => blk_frozen hk5.ob i
            have e5 : w5.setCell ⟨g, 14, none⟩ (.slice x41 mm.ex.length x42) = w5 := set_same hk5.ob rfl
            clear rr4
            go_wp2_with fail
            refine (dU1 w5 c45).mono ?_
            rintro e w6 ⟨rfl, c6⟩
            have hk6 := hk5.below c6 hg5
            have c46 := Nm.below_two c45 c6
            have hg6 : g ≤ w6.heap.size := by have := c6.size; omega
            have rr6 := fun i => blk_cell hk6.ob i
            simp only [mgV] at rr6
            have rf6 := fun i => blk_frozen hk6.ob i
            have e6 : w6.setCell ⟨g, 13, none⟩ (.slice u41 mm.au.length u42) = w6 := set_same hk6.ob rfl
            clear rr5 rf5 e5
            go_wp2_with fail
            refine (dA1 w6 c46).mono ?_
            rintro e w7 ⟨a7, rfl, o7, c7⟩
            obtain ⟨a71, a72, rfl⟩ := own_sl o7
            have hk7 := hk6.below c7 hg6
            have rr7 := fun i => blk_cell hk7.ob i
            simp only [mgV] at rr7
            have rf7 := fun i => blk_frozen hk7.ob i
            have hk8 := hk7.an o7
            have rr8 := fun i => blk_cell hk8.ob i
            simp only [mgV] at rr8
            have rf8 := fun i => blk_frozen hk8.ob i
            have hk9 := hk8.tc
            clear rr6 rf6 e6
            go_wp2
            go_roundw
            case rel => exact ⟨_, _, _, _, _, HE, hk9⟩
            case measure => rw [mzS_is hk9, HMZ.out]; exact HLT.out
          | none =>
            have hS := shM_no hX hU hA
            have HE : Hid (TM = mm) := HM2.out mm HTA4.out hS
            have dA1 := fun W hb => sd_none (dA W hb) hA
            clear HM HM2 HM3 hS dX dU dA hX hU hA hf
            go_wp2_with (first
              | (refine wpList_load_blk (.tmp 2) 33 rfl rfl g _ _ hk.ob rfl Tryz.underlying33 rfl (by kernel_rfl) ?_)
              | (go_at_call 35; refine hwr.mono ?_; rintro e w4 ⟨v4, rfl, o4, c4⟩; obtain ⟨v41, v42, rfl⟩ := own_sl o4; have hk4 := hk.below c4 hgw; have rr4 := (fun i => blk_cell hk4.ob i); simp only [mgV] at rr4))
            have hg4 : g ≤ w4.heap.size := by have := c4.size; omega
            try go_wp2_with fail
            refine (dX1 w4 c4).mono ?_
            rintro e w5 ⟨rfl, c5⟩
            have hk5 := hk4.below c5 hg4
            have c45 := Nm.below_two c4 c5
            have hg5 : g ≤ w5.heap.size := by have := c5.size; omega
            have rr5 := fun i => blk_cell hk5.ob i
            simp only [mgV] at rr5
            have rf5 := fun i => blk_frozen hk5.ob i
            have e5 : w5.setCell ⟨g, 14, none⟩ (.slice x41 mm.ex.length x42) = w5 := set_same hk5.ob rfl
            clear rr4
            go_wp2_with fail
            refine (dU1 w5 c45).mono ?_
            rintro e w6 ⟨rfl, c6⟩
            have hk6 := hk5.below c6 hg5
            have c46 := Nm.below_two c45 c6
            have hg6 : g ≤ w6.heap.size := by have := c6.size; omega
            have rr6 := fun i => blk_cell hk6.ob i
            simp only [mgV] at rr6
            have rf6 := fun i => blk_frozen hk6.ob i
            have e6 : w6.setCell ⟨g, 13, none⟩ (.slice u41 mm.au.length u42) = w6 := set_same hk6.ob rfl
            clear rr5 rf5 e5
            go_wp2_with fail
            refine (dA1 w6 c46).mono ?_
            rintro e w7 ⟨rfl, c7⟩
            have hk7 := hk6.below c7 hg6
            have hg7 : g ≤ w7.heap.size := by have := c7.size; omega
            have rr7 := fun i => blk_cell hk7.ob i
            simp only [mgV] at rr7
            have rf7 := fun i => blk_frozen hk7.ob i
            have e7 : w7.setCell ⟨g, 12, none⟩ (.slice a41 mm.an.length a42) = w7 := set_same hk7.ob rfl
            clear rr6 rf6 e6
            go_wp2_with (first
              | (refine wpList_load_blk (.tmp 2) 33 rfl rfl g _ _ hk7.ob rfl Tryz.underlying33 rfl (by kernel_rfl) ?_)
              | (refine wpList_store_blk (.tmp 4) (.tmp 39) 33 rfl rfl rfl (g + 1) _ _ hk7.zb rfl rfl (by kernel_rfl) rfl hone ?_; intro wz kz oz))
            rw [HE.out]
            refine bodyPost_ret (v := .agg (mgV mm.hd q4 (.slice a41 mm.an.length a42) (.slice u41 mm.au.length u42) (.slice x41 mm.ex.length x42))) (run_results_rowM Tryz.results14 rfl kz Tryz.underlying33 rfl (by kernel_rfl)) rfl ?_
            rw [HGG.out]
            exact ⟨_, _, _, _, rfl, ⟨own_onlyT hk7.own.rq oz hk7.zb, own_onlyT hk7.own.ra oz hk7.zb, own_onlyT hk7.own.ru oz hk7.zb, own_onlyT hk7.own.rx oz hk7.zb⟩, oz.below hk7.be (Nat.le_succ _) hg7⟩
end Go.Proofs.YtmaopfagkffccaaGreat
