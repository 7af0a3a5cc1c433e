import Derived.Test.YtkiadnglbjamfaaPfX
/- (linkList).pick by its contract. -/
namespace Go.Proofs.Ytkiadnglbjamfaa
open Go.RowKit
set_option linter.unusedVariables false

theorem setAll_belowP {w : World} {B b : Nat} (hb : B ≤ b) : ∀ (vs : List Value) (i : Nat) (W : World), Below B w W → Below B w (setAll W b i vs) := by
  intro vs
  induction vs with
  | nil => intro i W h; exact h
  | cons v vs ih => intro i W h; exact ih (i + 1) _ (h.setCell hb _)

/-- What pick answers. -/
def Picked (w : World) (ls : List Lk) (vs : List (Value × Value × Value)) (o : Option Lk) (e : Ending) : Prop := match o with
  | none => e = .returned (.tuple #[.agg #[.slice none 0 0, .slice none 0 0, .slice none 0 0], .bool false])
  | some l => ∃ a b c, e = .returned (.tuple #[.agg #[a, b, c], .bool true]) ∧ LkV w a b c l ∧ ∃ k : Nat, vs[k]? = some (a, b, c) ∧ ls[k]? = some l

theorem pick_back {W : World} {b : Nat} {x0 x1 x2 : Value} {ok : Bool} {R : Ending → World → Prop} {a : Act} (h : Blk W b #[x0, x1, x2] 68)
    (h2 : a.tmps[6]? = some (.pointer (some ⟨b, 0, none⟩))) (h3 : a.tmps[7]? = some (.bool ok)) (hd : a.defers = [])
    (hR : R (.returned (.tuple #[.agg #[x0, x1, x2], .bool ok])) W) : bodyPost Try.prog Try.f52 R .ret a W := by
  refine bodyPost_ret ?_ hd hR
  have r := fun i => blk_cell h i
  simp [results, Try.results52, go_sem, Result.andThen, r, h2, h3]

set_option maxRecDepth 100000 in
set_option maxHeartbeats 1600000 in
theorem pick_at (v u : Value) (ls : List Lk) (vs : List (Value × Value × Value)) (x : List ByteArray) (w : World) (h : LkS w v ls vs) (hlen : ls.length ≤ 20) (hu : Nm.SRow w u x) (hx : Few x) :
    Calls Try.prog 52 #[v, u, .func (.func 53) #[] #[]] w fun e w' => Below w.heap.size w w' ∧ Picked w' ls vs (pickB ls x atB) e := by
  have e1 : (w.alloc (.cells #[u] 48)).heap.size = w.heap.size + 1 := by simp
  have e2 : ((w.alloc (.cells #[u] 48)).alloc (.cells #[.func (.func 53) #[] #[]] 84)).heap.size = w.heap.size + 2 := by simp
  have hB1 := (Below.refl w.heap.size w).alloc (Nat.le_refl _) (.cells #[u] 48)
  have hB2 := hB1.alloc hB1.size (.cells #[.func (.func 53) #[] #[]] 84)
  have hB3 := hB2.alloc hB2.size (.cells #[.slice none 0 0, .slice none 0 0, .slice none 0 0] 68)
  have kA := blk_alloc (blk_alloc (blk_new w #[u] 48) (.cells #[.func (.func 53) #[] #[]] 84)) (.cells #[.slice none 0 0, .slice none 0 0, .slice none 0 0] 68)
  have kB := blk_alloc (blk_new (w.alloc (.cells #[u] 48)) #[.func (.func 53) #[] #[]] 84) (.cells #[.slice none 0 0, .slice none 0 0, .slice none 0 0] 68)
  have kC := blk_new ((w.alloc (.cells #[u] 48)).alloc (.cells #[.func (.func 53) #[] #[]] 84)) #[.slice none 0 0, .slice none 0 0, .slice none 0 0] 68
  rw [e1] at kB
  rw [e2] at kC
  have hix := indexFunc_any (fun l => useB l x && atB l x) (.pointer (some ⟨w.heap.size, 0, none⟩)) (.pointer (some ⟨w.heap.size + 1, 0, none⟩)) v ls vs _ (h.below hB3) hlen (fun a b c l W hW hl => pick1_at w.heap.size (w.heap.size + 1) a b c u l x W hl (hu.below (Nm.below_two hB3 hW)) hx (blk_below kA hW) (blk_below kB hW))
  have HH := Nm.hide h
  obtain ⟨_, va, vcap, rfl, hcap, hmx, hc⟩ := h.row
  obtain ⟨xu, yu, rfl, _⟩ := hu
  clear h e1 e2 kA kB hB1 hB2
  have hmf : ∀ (fn : Fn) (first cap : Array Value) (w : World), (Instr.makeFunc fn first cap).run Try.prog w = .ok (.func fn first cap) w := fun _ _ _ _ => rfl
  go_enter Try.func52, Try.ntmps52
  go_wp2_with fail
  refine hix.mono ?_
  rintro e w1 ⟨b1, ⟨rfl, hf⟩ | ⟨k, l, rfl, hl, hf⟩⟩
  · have HF := Nm.hide (show pickB ls x atB = none from hf)
    have k1 := blk_below kC b1
    have B1 := Nm.below_two hB3 b1
    have r1 := fun i => blk_cell k1 i
    have f1 := fun i => blk_frozen k1 i
    have X := Nm.hide (And.intro (setAll_new [.slice none 0 0, .slice none 0 0, .slice none 0 0] k1 rfl) (setAll_belowP (by omega : w.heap.size ≤ w.heap.size + 2) [.slice none 0 0, .slice none 0 0, .slice none 0 0] 0 _ B1))
    simp only [setAll, Nat.reduceAdd, Nat.zero_add] at X
    clear hf hix hc kC b1
    go_wp2
    refine pick_back X.out.1 rfl rfl rfl ?_
    rw [HF.out]
    exact ⟨X.out.2, rfl⟩
  · have HF := Nm.hide (show pickB ls x atB = some l from hf)
    have hlt := (List.getElem?_eq_some_iff.1 hl).1
    obtain ⟨⟨pa, pb, pc⟩, hv⟩ : ∃ t, vs[k]? = some t := ⟨_, List.getElem?_eq_getElem (by have := HH.out.len; omega)⟩
    have R := HH.out.all k _ l hv hl
    have at0 := tri_at vs k 0 _ hv (by decide)
    have at1 := tri_at vs k 1 _ hv (by decide)
    have at2 := tri_at vs k 2 _ hv (by decide)
    obtain ⟨b, off, rfl, hcell⟩ := hc (by omega)
    have B1 := Nm.below_two hB3 b1
    have put : ∀ {B O : Nat} {z : Value}, w.cell? ⟨B, O, none⟩ = some z → w1.cell? ⟨B, O, none⟩ = some z := fun h => (B1.cell (World.block_lt_of_cell? w _ h)).trans h
    have c0 : w1.cell? ⟨b, off + k * 3, none⟩ = some pa := put (hcell _ _ at0)
    have c1 : w1.cell? ⟨b, off + k * 3 + 1, none⟩ = some pb := put (hcell _ _ at1)
    have c2 : w1.cell? ⟨b, off + k * 3 + 2, none⟩ = some pc := put (hcell _ _ at2)
    obtain ⟨⟨x1, y1, rfl⟩, ⟨x2, y2, rfl⟩, ⟨x3, y3, rfl⟩⟩ := lk_form R
    have k1 := blk_below kC b1
    have r1 := fun i => blk_cell k1 i
    have f1 := fun i => blk_frozen k1 i
    have X := Nm.hide (And.intro (setAll_new [.slice x1 l.ow.length y1, .slice x2 l.nx.length y2, .slice x3 l.ty.length y3] k1 rfl) (setAll_belowP (by omega : w.heap.size ≤ w.heap.size + 2) [.slice x1 l.ow.length y1, .slice x2 l.nx.length y2, .slice x3 l.ty.length y3] 0 _ B1))
    simp only [setAll, Nat.reduceAdd, Nat.zero_add] at X
    have RR := Nm.hide (And.intro R (And.intro hv hl))
    have i1 : (0 : Int) ≤ (k : Int) := by omega
    have i2 : (k : Int) < (ls.length : Int) := by omega
    have i3 : ¬ ((k : Int) < 0) := by omega
    clear hf hix hc kC b1 hcell at0 at1 at2 hv R put hl
    go_wp2
    refine pick_back X.out.1 rfl rfl rfl ?_
    rw [HF.out]
    exact ⟨X.out.2, _, _, _, rfl, RR.out.1.below X.out.2, k, RR.out.2.1, RR.out.2.2⟩

set_option maxRecDepth 100000 in
set_option maxHeartbeats 1600000 in
theorem pick_cov (v u : Value) (ls : List Lk) (vs : List (Value × Value × Value)) (x : List ByteArray) (w : World) (h : LkS w v ls vs) (hlen : ls.length ≤ 20) (hu : Nm.SRow w u x) (hx : Few x) :
    Calls Try.prog 52 #[v, u, .func (.func 55) #[] #[]] w fun e w' => Below w.heap.size w w' ∧ Picked w' ls vs (pickB ls x covB) e := by
  have e1 : (w.alloc (.cells #[u] 48)).heap.size = w.heap.size + 1 := by simp
  have e2 : ((w.alloc (.cells #[u] 48)).alloc (.cells #[.func (.func 55) #[] #[]] 84)).heap.size = w.heap.size + 2 := by simp
  have hB1 := (Below.refl w.heap.size w).alloc (Nat.le_refl _) (.cells #[u] 48)
  have hB2 := hB1.alloc hB1.size (.cells #[.func (.func 55) #[] #[]] 84)
  have hB3 := hB2.alloc hB2.size (.cells #[.slice none 0 0, .slice none 0 0, .slice none 0 0] 68)
  have kA := blk_alloc (blk_alloc (blk_new w #[u] 48) (.cells #[.func (.func 55) #[] #[]] 84)) (.cells #[.slice none 0 0, .slice none 0 0, .slice none 0 0] 68)
  have kB := blk_alloc (blk_new (w.alloc (.cells #[u] 48)) #[.func (.func 55) #[] #[]] 84) (.cells #[.slice none 0 0, .slice none 0 0, .slice none 0 0] 68)
  have kC := blk_new ((w.alloc (.cells #[u] 48)).alloc (.cells #[.func (.func 55) #[] #[]] 84)) #[.slice none 0 0, .slice none 0 0, .slice none 0 0] 68
  rw [e1] at kB
  rw [e2] at kC
  have hix := indexFunc_any (fun l => useB l x && covB l x) (.pointer (some ⟨w.heap.size, 0, none⟩)) (.pointer (some ⟨w.heap.size + 1, 0, none⟩)) v ls vs _ (h.below hB3) hlen (fun a b c l W hW hl => pick1_cov w.heap.size (w.heap.size + 1) a b c u l x W hl (hu.below (Nm.below_two hB3 hW)) hx (blk_below kA hW) (blk_below kB hW))
  have HH := Nm.hide h
  obtain ⟨_, va, vcap, rfl, hcap, hmx, hc⟩ := h.row
  obtain ⟨xu, yu, rfl, _⟩ := hu
  clear h e1 e2 kA kB hB1 hB2
  have hmf : ∀ (fn : Fn) (first cap : Array Value) (w : World), (Instr.makeFunc fn first cap).run Try.prog w = .ok (.func fn first cap) w := fun _ _ _ _ => rfl
  go_enter Try.func52, Try.ntmps52
  go_wp2_with fail
  refine hix.mono ?_
  rintro e w1 ⟨b1, ⟨rfl, hf⟩ | ⟨k, l, rfl, hl, hf⟩⟩
  · have HF := Nm.hide (show pickB ls x covB = none from hf)
    have k1 := blk_below kC b1
    have B1 := Nm.below_two hB3 b1
    have r1 := fun i => blk_cell k1 i
    have f1 := fun i => blk_frozen k1 i
    have X := Nm.hide (And.intro (setAll_new [.slice none 0 0, .slice none 0 0, .slice none 0 0] k1 rfl) (setAll_belowP (by omega : w.heap.size ≤ w.heap.size + 2) [.slice none 0 0, .slice none 0 0, .slice none 0 0] 0 _ B1))
    simp only [setAll, Nat.reduceAdd, Nat.zero_add] at X
    clear hf hix hc kC b1
    go_wp2
    refine pick_back X.out.1 rfl rfl rfl ?_
    rw [HF.out]
    exact ⟨X.out.2, rfl⟩
  · have HF := Nm.hide (show pickB ls x covB = some l from hf)
    have hlt := (List.getElem?_eq_some_iff.1 hl).1
    obtain ⟨⟨pa, pb, pc⟩, hv⟩ : ∃ t, vs[k]? = some t := ⟨_, List.getElem?_eq_getElem (by have := HH.out.len; omega)⟩
    have R := HH.out.all k _ l hv hl
    have at0 := tri_at vs k 0 _ hv (by decide)
    have at1 := tri_at vs k 1 _ hv (by decide)
    have at2 := tri_at vs k 2 _ hv (by decide)
    obtain ⟨b, off, rfl, hcell⟩ := hc (by omega)
    have B1 := Nm.below_two hB3 b1
    have put : ∀ {B O : Nat} {z : Value}, w.cell? ⟨B, O, none⟩ = some z → w1.cell? ⟨B, O, none⟩ = some z := fun h => (B1.cell (World.block_lt_of_cell? w _ h)).trans h
    have c0 : w1.cell? ⟨b, off + k * 3, none⟩ = some pa := put (hcell _ _ at0)
    have c1 : w1.cell? ⟨b, off + k * 3 + 1, none⟩ = some pb := put (hcell _ _ at1)
    have c2 : w1.cell? ⟨b, off + k * 3 + 2, none⟩ = some pc := put (hcell _ _ at2)
    obtain ⟨⟨x1, y1, rfl⟩, ⟨x2, y2, rfl⟩, ⟨x3, y3, rfl⟩⟩ := lk_form R
    have k1 := blk_below kC b1
    have r1 := fun i => blk_cell k1 i
    have f1 := fun i => blk_frozen k1 i
    have X := Nm.hide (And.intro (setAll_new [.slice x1 l.ow.length y1, .slice x2 l.nx.length y2, .slice x3 l.ty.length y3] k1 rfl) (setAll_belowP (by omega : w.heap.size ≤ w.heap.size + 2) [.slice x1 l.ow.length y1, .slice x2 l.nx.length y2, .slice x3 l.ty.length y3] 0 _ B1))
    simp only [setAll, Nat.reduceAdd, Nat.zero_add] at X
    have RR := Nm.hide (And.intro R (And.intro hv hl))
    have i1 : (0 : Int) ≤ (k : Int) := by omega
    have i2 : (k : Int) < (ls.length : Int) := by omega
    have i3 : ¬ ((k : Int) < 0) := by omega
    clear hf hix hc kC b1 hcell at0 at1 at2 hv R put hl
    go_wp2
    refine pick_back X.out.1 rfl rfl rfl ?_
    rw [HF.out]
    exact ⟨X.out.2, _, _, _, rfl, RR.out.1.below X.out.2, k, RR.out.2.1, RR.out.2.2⟩

end Go.Proofs.Ytkiadnglbjamfaa
