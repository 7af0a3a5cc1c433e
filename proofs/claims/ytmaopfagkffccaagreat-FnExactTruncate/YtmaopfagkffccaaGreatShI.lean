import Derived.Test.YtmaopfagkffccaaGreatJPtM
import Derived.Test.YtmaopfagkffccaaGreatDrI
import Derived.Test.YtmaopfagkffccaaGreatJMvM
/- (*impl.Message).shorten by its contract. -/
namespace Go.Proofs.YtmaopfagkffccaaGreat
open Go.RowKit
set_option linter.unusedVariables false

/-- The three lists lie apart. -/
structure Apa (a u x : Value) : Prop where
  au : ∀ g, a.ownBlock = some g → u.ownBlock ≠ some g
  ax : ∀ g, a.ownBlock = some g → x.ownBlock ≠ some g
  ux : ∀ g, u.ownBlock = some g → x.ownBlock ≠ some g

theorem only_grown {g : Nat} {w w' : World} (h : Only g w w') : w.grownBy w' (some g) := ⟨h.os, h.tape, h.output, h.size, fun k hk hne => h.block k hk (fun e => hne (by rw [e]))⟩
theorem own_only {w w' : World} {B e s n g : Nat} {v : Value} {xs : List Value} (h : w.ownsRow B e s v n xs) (ho : Only g w w') (hne : v.ownBlock ≠ some g) : w'.ownsRow B e s v n xs := by
  refine h.kept (only_grown ho) ?_
  cases hv : v.ownBlock with
  | none => exact .inl rfl
  | some k => right; rw [← hv]; exact hne
theorem only_below {B g : Nat} {w0 w w' : World} (h : Below B w0 w) (ho : Only g w w') (hB : B ≤ w.heap.size) (hg : B ≤ g) : Below B w0 w' := h.grown (only_grown ho) hB (fun k hk => by cases hk; exact hg)

/-- A message of one's own that lies in block g. -/
structure MBlk (w : World) (g B : Nat) (m : Mg) (q a u x : Value) : Prop where
  blk : Blk w g (mgV m.hd q a u x) 33
  own : MOwn w B m q a u x
  apa : Apa a u x
  bg : B ≤ g

theorem MBlk.below {w w' : World} {g B : Nat} {m : Mg} {q a u x : Value} (h : MBlk w g B m q a u x) (hb : Below w.heap.size w w') : MBlk w' g B m q a u x := ⟨blk_below h.blk hb, h.own.below hb, h.apa, h.bg⟩

/-- Extra is another list, in the block in which it was. -/
theorem MBlk.ex {w w1 : World} {g B b : Nat} {m : Mg} {q a u x x' : Value} {ys : List Rr} (h : MBlk w g B m q a u x) (ho : Only b w w1) (hb : x.ownBlock = some b) (hb' : x'.ownBlock = some b) (hx : w1.ownsRow B 72 5 x' ys.length (rvVs ys)) : MBlk (w1.setCell ⟨g, 14, none⟩ x') g B ⟨m.hd, m.qs, m.an, m.au, ys⟩ q a u x' := by
  have hgb : b ≠ g := fun e => own_blk h.own.rx h.blk (by decide) (by rw [hb, e])
  have k1 := ho.blk h.blk (fun e => hgb e.symm)
  have r1 := own_only h.own.rq ho (fun e => own_kinds h.own.rq h.own.rx (by decide) b hb e)
  have r2 := own_only h.own.ra ho (fun e => h.apa.ax b e hb)
  have r3 := own_only h.own.ru ho (fun e => h.apa.ux b e hb)
  refine ⟨blk_set k1 14 x', ⟨own_far r1 ?_, own_far r2 ?_, own_far r3 ?_, own_far hx ?_⟩, ⟨h.apa.au, fun k e e' => h.apa.ax k e (by rw [hb]; rw [hb'] at e'; exact e'), fun k e e' => h.apa.ux k e (by rw [hb]; rw [hb'] at e'; exact e')⟩, h.bg⟩
  · exact own_blk r1 k1 (by decide)
  · exact own_blk r2 k1 (by decide)
  · exact own_blk r3 k1 (by decide)
  · exact own_blk hx k1 (by decide)

theorem MBlk.au {w w1 : World} {g B b : Nat} {m : Mg} {q a u x u' : Value} {ys : List Rr} (h : MBlk w g B m q a u x) (ho : Only b w w1) (hb : u.ownBlock = some b) (hb' : u'.ownBlock = some b) (hx : w1.ownsRow B 72 5 u' ys.length (rvVs ys)) : MBlk (w1.setCell ⟨g, 13, none⟩ u') g B ⟨m.hd, m.qs, m.an, ys, m.ex⟩ q a u' x := by
  have hgb : b ≠ g := fun e => own_blk h.own.ru h.blk (by decide) (by rw [hb, e])
  have k1 := ho.blk h.blk (fun e => hgb e.symm)
  have r1 := own_only h.own.rq ho (fun e => own_kinds h.own.rq h.own.ru (by decide) b hb e)
  have r2 := own_only h.own.ra ho (fun e => h.apa.au b e hb)
  have r3 := own_only h.own.rx ho (fun e => h.apa.ux b hb e)
  refine ⟨blk_set k1 13 u', ⟨own_far r1 ?_, own_far r2 ?_, own_far hx ?_, own_far r3 ?_⟩, ⟨fun k e e' => h.apa.au k e (by rw [hb]; rw [hb'] at e'; exact e'), h.apa.ax, fun k e e' => h.apa.ux k (by rw [hb]; rw [hb'] at e; exact e) e'⟩, h.bg⟩
  · exact own_blk r1 k1 (by decide)
  · exact own_blk r2 k1 (by decide)
  · exact own_blk hx k1 (by decide)
  · exact own_blk r3 k1 (by decide)

theorem MBlk.an {w w1 : World} {g B b : Nat} {m : Mg} {q a u x a' : Value} {ys : List Rr} (h : MBlk w g B m q a u x) (ho : Only b w w1) (hb : a.ownBlock = some b) (hb' : a'.ownBlock = some b) (hx : w1.ownsRow B 72 5 a' ys.length (rvVs ys)) : MBlk (w1.setCell ⟨g, 12, none⟩ a') g B ⟨m.hd, m.qs, ys, m.au, m.ex⟩ q a' u x := by
  have hgb : b ≠ g := fun e => own_blk h.own.ra h.blk (by decide) (by rw [hb, e])
  have k1 := ho.blk h.blk (fun e => hgb e.symm)
  have r1 := own_only h.own.rq ho (fun e => own_kinds h.own.rq h.own.ra (by decide) b hb e)
  have r2 := own_only h.own.ru ho (fun e => h.apa.au b hb e)
  have r3 := own_only h.own.rx ho (fun e => h.apa.ax b hb e)
  refine ⟨blk_set k1 12 a', ⟨own_far r1 ?_, own_far hx ?_, own_far r2 ?_, own_far r3 ?_⟩, ⟨fun k e e' => h.apa.au k (by rw [hb]; rw [hb'] at e; exact e) e', fun k e e' => h.apa.ax k (by rw [hb]; rw [hb'] at e; exact e) e', h.apa.ux⟩, h.bg⟩
  · exact own_blk r1 k1 (by decide)
  · exact own_blk hx k1 (by decide)
  · exact own_blk r2 k1 (by decide)
  · exact own_blk r3 k1 (by decide)

theorem MBlk.tc {w : World} {g B : Nat} {m : Mg} {q a u x : Value} (h : MBlk w g B m q a u x) : MBlk (w.setCell ⟨g, 4, none⟩ (.bool true)) g B ⟨tcH m.hd, m.qs, m.an, m.au, m.ex⟩ q a u x :=
  ⟨blk_set h.blk 4 (.bool true), ⟨own_far h.own.rq (own_blk h.own.rq h.blk (by decide)), own_far h.own.ra (own_blk h.own.ra h.blk (by decide)), own_far h.own.ru (own_blk h.own.ru h.blk (by decide)), own_far h.own.rx (own_blk h.own.rx h.blk (by decide))⟩, h.apa, h.bg⟩

/-- What shorten leaves. -/
def ShPost (g B : Nat) (m : Mg) (q a u x : Value) (w : World) (e : Ending) (w' : World) : Prop :=
  (shM m = none ∧ e = .returned (.bool false) ∧ MBlk w' g B m q a u x ∧ Below B w w') ∨
  ∃ m' a' u' x', shM m = some m' ∧ e = .returned (.bool true) ∧ MBlk w' g B m' q a' u' x' ∧ Below B w w'

theorem drop_some {p : Rr → Bool} {B : Nat} {v : Value} {xs ys : List Rr} {w : World} {f : Nat} {args : Array Value} (h : Calls Tryz.prog f args w (DrPost p B v xs w)) (hy : dropS p xs = some ys) :
    Calls Tryz.prog f args w fun e w' => ∃ u b, e = .returned (.tuple #[u, .bool true]) ∧ v.ownBlock = some b ∧ u.ownBlock = some b ∧ w'.ownsRow B 72 5 u ys.length (rvVs ys) ∧ Only b w w' := by
  refine h.mono ?_
  rintro e w' (⟨h1, _⟩ | ⟨zs, u, b, h1, h2, h3, rfl, h4, h5⟩)
  · rw [hy] at h1; cases h1
  · rw [hy] at h1
    cases h1
    exact ⟨u, b, rfl, h2, h3, h4, h5⟩
theorem drop_none {p : Rr → Bool} {B : Nat} {v : Value} {xs : List Rr} {w : World} {f : Nat} {args : Array Value} (h : Calls Tryz.prog f args w (DrPost p B v xs w)) (hy : dropS p xs = none) :
    Calls Tryz.prog f args w fun e w' => e = .returned (.tuple #[v, .bool false]) ∧ Below w.heap.size w w' := by
  refine h.mono ?_
  rintro e w' (⟨_, rfl, h2⟩ | ⟨zs, u, b, h1, _⟩)
  · exact ⟨rfl, h2⟩
  · rw [hy] at h1; cases h1

theorem set_below {B g i : Nat} {w0 w : World} {v : Value} (h : Below B w0 w) (hg : B ≤ g) : Below B w0 (w.setCell ⟨g, i, none⟩ v) := h.setCell hg _

set_option maxRecDepth 100000 in
set_option maxHeartbeats 1600000 in
theorem shorten_any (g B : Nat) (m : Mg) (q a u x : Value) (w : World) (h : MBlk w g B m q a u x) (hs : MSmall m) (hB : B ≤ w.heap.size) :
    Calls Tryz.prog 22 #[.pointer (some ⟨g, 0, none⟩)] w (ShPost g B m q a u x w) := by
  obtain ⟨_, _, _, _, _, l2, l3, l4⟩ := hs
  have dX : Calls Tryz.prog 49 #[x, .func (.func 50) #[] #[]] w (DrPost isO B x m.ex w) := dropOPT_any B x m.ex w h.own.rx l4
  have dU : ∀ W, Below w.heap.size w W → Calls Tryz.prog 49 #[u, .func (.func 51) #[] #[]] W (DrPost isN B u m.au W) := fun W hb => dropAll_any B u m.au W (own_below h.own.ru hb) l3
  have dA : ∀ W, Below w.heap.size w W → Calls Tryz.prog 49 #[a, .func (.func 51) #[] #[]] W (DrPost isN B a m.an W) := fun W hb => dropAll_any B a m.an W (own_below h.own.ra hb) l2
  have hbk := h.blk
  obtain ⟨xa, xc, hxv⟩ := own_sl h.own.rx
  obtain ⟨ua, uc, huv⟩ := own_sl h.own.ru
  obtain ⟨aa, ac, hav⟩ := own_sl h.own.ra
  cases hX : dropS isO m.ex with
  | some ys =>
    have dX1 := drop_some dX hX
    have HS := Nm.hide (shM_ex hX)
    have hfin := fun (w1 : World) (x' : Value) (b : Nat) (ho : Only b w w1) (hb : x.ownBlock = some b) (hb' : x'.ownBlock = some b) (hx : w1.ownsRow B 72 5 x' ys.length (rvVs ys)) => h.ex ho hb hb' hx
    have hbw := fun (w1 : World) (b : Nat) (z : Value) (ho : Only b w w1) (hb : x.ownBlock = some b) => set_below (i := 14) (v := z) (only_below (Below.refl B w) ho hB (h.own.rx.lt b hb).1) h.bg
    have hkb := fun (w1 : World) (b : Nat) (ho : Only b w w1) (hb : x.ownBlock = some b) => ho.blk h.blk (fun e => own_blk h.own.rx h.blk (by decide) (by rw [hb, e]))
    clear dU dA dX hX
    obtain ⟨⟨i0, b1, i2, b3, tc, b5, b6, b7, b8, b9, i10⟩, qs, an, au, ex⟩ := m
    simp only [mgV] at *
    have rr := fun i => blk_cell hbk i
    subst hxv
    go_enter Tryz.func22, Tryz.ntmps22
    go_wp2_with (go_at_call 49; refine dX1.mono ?_; rintro e w1 ⟨x', b, rfl, hb, hb', hx, ho⟩; have kb := hkb w1 b ho hb; have rr1 := fun i => blk_cell kb i; have rf1 := fun i => blk_frozen kb i; obtain ⟨ya, yc, hyv⟩ := own_sl hx; subst hyv)
    go_ret
    exact .inr ⟨_, _, _, _, HS.out, rfl, hfin w1 _ b ho hb hb' hx, hbw w1 b _ ho hb⟩
  | none =>
    have dX1 := drop_none dX hX
    have hsame := fun (w1 : World) (hb : Below w.heap.size w w1) => set_same (i := 14) (v := x) (blk_below h.blk hb) rfl
    have hkb := fun (w1 : World) (hb : Below w.heap.size w w1) => blk_below h.blk hb
    cases hU : dropS isN m.au with
    | some ys =>
      have dU1 := fun W hb => drop_some (dU W hb) hU
      have HS := Nm.hide (shM_au hX hU)
      have hfin := fun (w1 w2 : World) (hb1 : Below w.heap.size w w1) (u' : Value) (b : Nat) (ho : Only b w1 w2) (hb : u.ownBlock = some b) (hb' : u'.ownBlock = some b) (hx : w2.ownsRow B 72 5 u' ys.length (rvVs ys)) => ((h.below hb1).au ho hb hb' hx).tc
      have hbw := fun (w1 w2 : World) (hb1 : Below w.heap.size w w1) (b : Nat) (z : Value) (ho : Only b w1 w2) (hb : u.ownBlock = some b) => set_below (i := 4) (v := .bool true) (set_below (i := 13) (v := z) (only_below (hb1.mono hB) ho (Nat.le_trans hB hb1.size) (h.own.ru.lt b hb).1) h.bg) h.bg
      have hkc := fun (w1 w2 : World) (hb1 : Below w.heap.size w w1) (b : Nat) (z : Value) (ho : Only b w1 w2) (hb : u.ownBlock = some b) => (ho.blk (hkb w1 hb1) (fun e => own_blk h.own.ru h.blk (by decide) (by rw [hb, e])))
      have hkd := fun (w1 w2 : World) (hb1 : Below w.heap.size w w1) (b : Nat) (z : Value) (ho : Only b w1 w2) (hb : u.ownBlock = some b) => blk_set (hkc w1 w2 hb1 b z ho hb) 13 z
      clear dU dA dX hX hU
      obtain ⟨⟨i0, b1, i2, b3, tc, b5, b6, b7, b8, b9, i10⟩, qs, an, au, ex⟩ := m
      simp only [mgV] at *
      have rr := fun i => blk_cell hbk i
      subst hxv
      subst huv
      subst hav
      cases tc with
      | false =>
        go_enter Tryz.func22, Tryz.ntmps22
        go_wp2_with fail
        refine dX1.mono ?_
        rintro e w1 ⟨rfl, hb1⟩
        have kb := hkb w1 hb1
        have rr1 := fun i => blk_cell kb i
        have rf1 := fun i => blk_frozen kb i
        have e1 := hsame w1 hb1
        go_wp2_with fail
        refine (dU1 w1 hb1).mono ?_
        rintro e w2 ⟨u', b, rfl, hb, hb', hx, ho⟩
        have kc := hkc w1 w2 hb1 b u' ho hb
        have rr2 := fun i => blk_cell kc i
        have rf2 := fun i => blk_frozen kc i
        obtain ⟨ya, yc, hyv⟩ := own_sl hx
        subst hyv
        have kd := hkd w1 w2 hb1 b (.slice ya ys.length yc) ho hb
        have rr3 := fun i => blk_cell kd i
        have rf3 := fun i => blk_frozen kd i
        go_wp2
        go_ret
        exact .inr ⟨_, _, _, _, HS.out, rfl, hfin w1 w2 hb1 _ b ho hb hb' hx, hbw w1 w2 hb1 b _ ho hb⟩
      | true =>
        go_enter Tryz.func22, Tryz.ntmps22
        go_wp2_with fail
        refine dX1.mono ?_
        rintro e w1 ⟨rfl, hb1⟩
        have kb := hkb w1 hb1
        have rr1 := fun i => blk_cell kb i
        have rf1 := fun i => blk_frozen kb i
        have e1 := hsame w1 hb1
        go_wp2_with fail
        refine (dU1 w1 hb1).mono ?_
        rintro e w2 ⟨u', b, rfl, hb, hb', hx, ho⟩
        have kc := hkc w1 w2 hb1 b u' ho hb
        have rr2 := fun i => blk_cell kc i
        have rf2 := fun i => blk_frozen kc i
        obtain ⟨ya, yc, hyv⟩ := own_sl hx
        subst hyv
        have kd := hkd w1 w2 hb1 b (.slice ya ys.length yc) ho hb
        have rr3 := fun i => blk_cell kd i
        have rf3 := fun i => blk_frozen kd i
        go_wp2
        go_ret
        exact .inr ⟨_, _, _, _, HS.out, rfl, hfin w1 w2 hb1 _ b ho hb hb' hx, hbw w1 w2 hb1 b _ ho hb⟩
    | none =>
      have dU1 := fun W hb => drop_none (dU W hb) hU
      have hsame2 := fun (w1 : World) (hb : Below w.heap.size w w1) => set_same (i := 13) (v := u) (blk_below h.blk hb) rfl
      cases hA : dropS isN m.an with
      | some ys =>
        have dA1 := fun W hb => drop_some (dA W hb) hA
        have HS := Nm.hide (shM_an hX hU hA)
        have hfin := fun (w1 w2 : World) (hb1 : Below w.heap.size w w1) (a' : Value) (b : Nat) (ho : Only b w1 w2) (hb : a.ownBlock = some b) (hb' : a'.ownBlock = some b) (hx : w2.ownsRow B 72 5 a' ys.length (rvVs ys)) => ((h.below hb1).an ho hb hb' hx).tc
        have hbw := fun (w1 w2 : World) (hb1 : Below w.heap.size w w1) (b : Nat) (z : Value) (ho : Only b w1 w2) (hb : a.ownBlock = some b) => set_below (i := 4) (v := .bool true) (set_below (i := 12) (v := z) (only_below (hb1.mono hB) ho (Nat.le_trans hB hb1.size) (h.own.ra.lt b hb).1) h.bg) h.bg
        have hkc := fun (w1 w2 : World) (hb1 : Below w.heap.size w w1) (b : Nat) (z : Value) (ho : Only b w1 w2) (hb : a.ownBlock = some b) => (ho.blk (hkb w1 hb1) (fun e => own_blk h.own.ra h.blk (by decide) (by rw [hb, e])))
        have hkd := fun (w1 w2 : World) (hb1 : Below w.heap.size w w1) (b : Nat) (z : Value) (ho : Only b w1 w2) (hb : a.ownBlock = some b) => blk_set (hkc w1 w2 hb1 b z ho hb) 12 z
        clear dU dA dX hX hU hA
        obtain ⟨⟨i0, b1, i2, b3, tc, b5, b6, b7, b8, b9, i10⟩, qs, an, au, ex⟩ := m
        simp only [mgV] at *
        have rr := fun i => blk_cell hbk i
        subst hxv
        subst huv
        subst hav
        cases tc with
        | false =>
          go_enter Tryz.func22, Tryz.ntmps22
          go_wp2_with fail
          refine dX1.mono ?_
          rintro e w1 ⟨rfl, hb1⟩
          have kb := hkb w1 hb1
          have rr1 := fun i => blk_cell kb i
          have rf1 := fun i => blk_frozen kb i
          have e1 := hsame w1 hb1
          go_wp2_with fail
          refine (dU1 w1 hb1).mono ?_
          rintro e w2 ⟨rfl, hb2⟩
          have hb12 := Nm.below_two hb1 hb2
          have kc := hkb w2 hb12
          have rr2 := fun i => blk_cell kc i
          have rf2 := fun i => blk_frozen kc i
          have e2 := hsame2 w2 hb12
          clear rr1 rf1 e1 kb
          go_wp2_with fail
          refine (dA1 w2 hb12).mono ?_
          rintro e w3 ⟨a', b, rfl, hb, hb', hx, ho⟩
          have kd := hkc w2 w3 hb12 b a' ho hb
          have rr3 := fun i => blk_cell kd i
          have rf3 := fun i => blk_frozen kd i
          obtain ⟨ya, yc, hyv⟩ := own_sl hx
          subst hyv
          have ke := hkd w2 w3 hb12 b (.slice ya ys.length yc) ho hb
          have rr4 := fun i => blk_cell ke i
          have rf4 := fun i => blk_frozen ke i
          clear rr2 rf2 e2 kc
          go_wp2
          go_ret
          exact .inr ⟨_, _, _, _, HS.out, rfl, hfin w2 w3 hb12 _ b ho hb hb' hx, hbw w2 w3 hb12 b _ ho hb⟩
        | true =>
          go_enter Tryz.func22, Tryz.ntmps22
          go_wp2_with fail
          refine dX1.mono ?_
          rintro e w1 ⟨rfl, hb1⟩
          have kb := hkb w1 hb1
          have rr1 := fun i => blk_cell kb i
          have rf1 := fun i => blk_frozen kb i
          have e1 := hsame w1 hb1
          go_wp2_with fail
          refine (dU1 w1 hb1).mono ?_
          rintro e w2 ⟨rfl, hb2⟩
          have hb12 := Nm.below_two hb1 hb2
          have kc := hkb w2 hb12
          have rr2 := fun i => blk_cell kc i
          have rf2 := fun i => blk_frozen kc i
          have e2 := hsame2 w2 hb12
          clear rr1 rf1 e1 kb
          go_wp2_with fail
          refine (dA1 w2 hb12).mono ?_
          rintro e w3 ⟨a', b, rfl, hb, hb', hx, ho⟩
          have kd := hkc w2 w3 hb12 b a' ho hb
          have rr3 := fun i => blk_cell kd i
          have rf3 := fun i => blk_frozen kd i
          obtain ⟨ya, yc, hyv⟩ := own_sl hx
          subst hyv
          have ke := hkd w2 w3 hb12 b (.slice ya ys.length yc) ho hb
          have rr4 := fun i => blk_cell ke i
          have rf4 := fun i => blk_frozen ke i
          clear rr2 rf2 e2 kc
          go_wp2
          go_ret
          exact .inr ⟨_, _, _, _, HS.out, rfl, hfin w2 w3 hb12 _ b ho hb hb' hx, hbw w2 w3 hb12 b _ ho hb⟩
      | none =>
        have dA1 := fun W hb => drop_none (dA W hb) hA
        have HS := Nm.hide (shM_no hX hU hA)
        have hsame3 := fun (w1 : World) (hb : Below w.heap.size w w1) => set_same (i := 12) (v := a) (blk_below h.blk hb) rfl
        have hsame4 := fun (w1 : World) (hb : Below w.heap.size w w1) => set_same (i := 4) (v := .bool m.hd.tc) (blk_below h.blk hb) rfl
        have hfin := fun (w1 : World) (hb1 : Below w.heap.size w w1) => h.below hb1
        clear dU dA dX hX hU hA
        obtain ⟨⟨i0, b1, i2, b3, tc, b5, b6, b7, b8, b9, i10⟩, qs, an, au, ex⟩ := m
        simp only [mgV] at *
        have rr := fun i => blk_cell hbk i
        subst hxv
        subst huv
        subst hav
        cases tc with
        | false =>
          go_enter Tryz.func22, Tryz.ntmps22
          go_wp2_with fail
          refine dX1.mono ?_
          rintro e w1 ⟨rfl, hb1⟩
          have kb := hkb w1 hb1
          have rr1 := fun i => blk_cell kb i
          have rf1 := fun i => blk_frozen kb i
          have e1 := hsame w1 hb1
          go_wp2_with fail
          refine (dU1 w1 hb1).mono ?_
          rintro e w2 ⟨rfl, hb2⟩
          have hb12 := Nm.below_two hb1 hb2
          have kc := hkb w2 hb12
          have rr2 := fun i => blk_cell kc i
          have rf2 := fun i => blk_frozen kc i
          have e2 := hsame2 w2 hb12
          clear rr1 rf1 e1 kb
          go_wp2_with fail
          refine (dA1 w2 hb12).mono ?_
          rintro e w3 ⟨rfl, hb3⟩
          have hb13 := Nm.below_two hb12 hb3
          have kd := hkb w3 hb13
          have rr3 := fun i => blk_cell kd i
          have rf3 := fun i => blk_frozen kd i
          have e3 := hsame3 w3 hb13
          have e4 := hsame4 w3 hb13
          clear rr2 rf2 e2 kc
          go_wp2
          go_ret
          exact .inl ⟨HS.out, rfl, hfin w3 hb13, hb13.mono hB⟩
        | true =>
          go_enter Tryz.func22, Tryz.ntmps22
          go_wp2_with fail
          refine dX1.mono ?_
          rintro e w1 ⟨rfl, hb1⟩
          have kb := hkb w1 hb1
          have rr1 := fun i => blk_cell kb i
          have rf1 := fun i => blk_frozen kb i
          have e1 := hsame w1 hb1
          go_wp2_with fail
          refine (dU1 w1 hb1).mono ?_
          rintro e w2 ⟨rfl, hb2⟩
          have hb12 := Nm.below_two hb1 hb2
          have kc := hkb w2 hb12
          have rr2 := fun i => blk_cell kc i
          have rf2 := fun i => blk_frozen kc i
          have e2 := hsame2 w2 hb12
          clear rr1 rf1 e1 kb
          go_wp2_with fail
          refine (dA1 w2 hb12).mono ?_
          rintro e w3 ⟨rfl, hb3⟩
          have hb13 := Nm.below_two hb12 hb3
          have kd := hkb w3 hb13
          have rr3 := fun i => blk_cell kd i
          have rf3 := fun i => blk_frozen kd i
          have e3 := hsame3 w3 hb13
          have e4 := hsame4 w3 hb13
          clear rr2 rf2 e2 kc
          go_wp2
          go_ret
          exact .inl ⟨HS.out, rfl, hfin w3 hb13, hb13.mono hB⟩
end Go.Proofs.YtmaopfagkffccaaGreat
