import Derived.Test.YtnpegoclghfmpaaGreatCzC
import Derived.Test.YtnpegoclghfmpaaGreatJCzO
import Derived.Test.YtnpegoclghfmpaaGreatJZnE
import Derived.Test.YtnpegoclghfmpaaGreatJZrS
import Derived.Test.YtnpegoclghfmpaaGreatJBmB
import Derived.Test.YtnpegoclghfmpaaGreatJTrV
import Derived.Test.YtnpegoclghfmpaaGreatJTbGI
import Derived.Test.YtnpegoclghfmpaaGreatJBzE
import Derived.Test.YtnpegoclghfmpaaGreatJBzR
import Derived.Test.YtnpegoclghfmpaaGreatJClone
import Derived.Test.YtnpegoclghfmpaaGreatJMsP
import Derived.Test.YtnpegoclghfmpaaGreatJMark
/- The law of CheckZone: its walk. -/
namespace Go.Proofs.YtnpegoclghfmpaaGreat
open Go.RowKit
set_option linter.unusedVariables false

theorem cz_ssum {ls : List ByteArray} {x : ByteArray} (h : x ∈ ls) : x.size ≤ ssum ls := by
  induction ls with
  | nil => simp at h
  | cons y ls ih =>
    rcases List.mem_cons.1 h with rfl | h
    · simp only [ssum]; omega
    · have := ih h; simp only [ssum]; omega
theorem cz_fits {ps : List Zp} (h : zsum ps ≤ 1048576) : ∀ p ∈ ps, p.1.own.size ≤ 1048576 ∧ p.1.da.length ≤ 1048576 ∧ ∀ x ∈ p.1.da, x.size ≤ 1048576 := by
  intro p hp
  have h1 := zsum_mem ps p hp
  unfold zs1 at h1
  exact ⟨by omega, by omega, fun x hx => by have := cz_ssum hx; omega⟩
theorem cz_mem {ps qs : List Zp} (h : qs.map (·.1) = ps.map (·.1)) {P : Sz → Prop} (hp : ∀ p ∈ ps, P p.1) : ∀ q ∈ qs, P q.1 := by
  intro q hq
  have : q.1 ∈ qs.map (·.1) := List.mem_map.2 ⟨q, hq, rfl⟩
  rw [h] at this
  obtain ⟨p, hp1, hp2⟩ := List.mem_map.1 this
  rw [← hp2]
  exact hp p hp1
theorem zOK_same {ps qs : List Zp} (h : qs.map (·.1) = ps.map (·.1)) (o : ByteArray) : zOK qs o = zOK ps o := by
  rw [zOK, zOK, zoneRecs_same h, h]

set_option maxRecDepth 100000 in
set_option maxHeartbeats 6400000 in
theorem fnExactCheckZone_walk (o : ByteArray) (v : Value) (ps : List Zp) (w : World) (h : ZRow w v ps) (hx : ZFit ps) (ho : o.size ≤ maxLen) :
    Calls Tryz.prog 3 #[.agg #[.string o, v]] w fun e w' => e = .returned (.bool true) ∧ Below w.heap.size w w' := by
  have hBa := (Below.refl w.heap.size w).alloc (Nat.le_refl _) (.cells #[.string o, v] 24)
  have hz0 := blk_new w #[.string o, v] 24
  have hsza : (w.alloc (.cells #[.string o, v] 24)).heap.size = w.heap.size + 1 := by simp
  have Z0 := h.below hBa
  have hsz := szZone_any o v ps 1048576 _ Z0 hx ho (by decide) (by decide)
  obtain ⟨a, cap, hva⟩ : ∃ a c, v = .slice a ps.length c := by obtain ⟨⟨_, a, c, e, _⟩, _⟩ := h; exact ⟨a, c, e⟩
  subst hva
  by_cases hb : (o.size : Int) + ps.length + (zsum ps : Int) ≤ 1048576
  · have e1 : szZ o ps 1048576 = 1048576 - o.size - ps.length - zsum ps := if_pos hb
    rw [e1] at hsz
    have hzs : zsum ps ≤ 1048576 := by omega
    have hpl : ps.length ≤ 1048576 := by omega
    have hol : o.size ≤ 1048576 := by omega
    have hfit := cz_fits hzs
    have hnn : 0 ≤ 1048576 - (o.size : Int) - (ps.length : Int) - (zsum ps : Int) := by omega
    generalize (1048576 - (o.size : Int) - (ps.length : Int) - (zsum ps : Int)) = L at *
    clear hb hx e1
    -- what each call does
    have hto : ∀ W, Below w.heap.size w W → Calls Tryz.prog 9 #[.agg #[.string o, .slice a ps.length cap]] W fun e w' => ∃ u qs, e = .returned (.agg #[.string o, u]) ∧ qs.map (·.1) = ps.map (·.1) ∧ OZ w' W.heap.size u qs ∧ Below W.heap.size W w' := fun W hW => toZone_any o _ ps W (h.below hW) hpl (fun p hp => (hfit p hp).2.1)
    have hfq : ∀ qs : List Zp, qs.map (·.1) = ps.map (·.1) → ∀ q ∈ qs, q.1.own.size ≤ 1048576 ∧ ∀ x ∈ q.1.da, x.size ≤ 1048576 := fun qs hq => cz_mem hq (P := fun s => s.own.size ≤ 1048576 ∧ ∀ x ∈ s.da, x.size ≤ 1048576) (fun p hp => ⟨(hfit p hp).1, (hfit p hp).2.2⟩)
    have hsp : ∀ (u : Value) (qs : List Zp) (W : World), qs.map (·.1) = ps.map (·.1) → ZRow W u qs → Calls Tryz.prog 8 #[.agg #[.string o, u]] W fun e w' => e = .returned (.int .i64 (if zOK ps o = true then 0 else 32)) ∧ Below W.heap.size W w' := by
      intro u qs W hq hz
      have hl : qs.length = ps.length := by have := congrArg List.length hq; simpa using this
      have := specCheckZone_any o u qs W hz (by rw [zsum_same hq]; exact hzs) (by omega) (hfq qs hq) ho
      rwa [zOK_same hq] at this
    have him : ∀ (u : Value) (qs : List Zp) (W : World), qs.map (·.1) = ps.map (·.1) → ZRow W u qs → Calls Tryz.prog 10 #[.agg #[.string o, u]] W fun e w' => e = .returned (.int .i64 (if zOK ps o = true then 0 else 32)) ∧ Below W.heap.size W w' := by
      intro u qs W hq hz
      have := implCheckZone_any o u qs W hz (by rw [zsum_same hq]; exact hzs) (hfq qs hq) (by omega)
      rwa [zOK_same hq] at this
    have hez : ∀ (u u' : Value) (qs rs : List Zp) (W : World), qs.map (·.1) = ps.map (·.1) → rs.map (·.1) = ps.map (·.1) → ZRow W u qs → ZRow W u' rs → Calls Tryz.prog 11 #[.agg #[.string o, u], .agg #[.string o, u']] W fun e w' => e = .returned (.bool true) ∧ Below W.heap.size W w' := fun u u' qs rs W h1 h2 h3 h4 => eqZone_any o u u' qs rs W h3 h4 (h1.trans h2.symm) (cz_mem h1 (P := fun s => s.da.length ≤ 1000000000) (fun p hp => by have := (hfit p hp).2.1; omega))
    obtain ⟨N, hN⟩ : ∃ N : Int, N = if zOK ps o = true then 0 else 32 := ⟨_, rfl⟩
    rw [← hN] at hsp him
    have hNn : (N != N) = false := by simp
    clear hfit hzs hpl hN hfq ho
    go_enter Tryz.func3, Tryz.ntmps3
    go_wp2_with fail
    refine hsz.mono ?_
    rintro e w1 ⟨rfl, hb1⟩
    have z1 := blk_below hz0 hb1
    have b1 := Nm.below_two hBa hb1
    have q0 := (blk_cell z1 0).trans rfl
    have q1 := (blk_cell z1 1).trans rfl
    clear hsz hz0 hb1 Z0
    go_wp2_with fail
    refine (hto _ b1).mono ?_
    rintro e w2 ⟨u2, qs2, rfl, hq2, hoz2, hb2⟩
    have z2 := blk_below z1 hb2
    have b2 := Nm.below_two b1 hb2
    clear q0 q1 z1
    go_wp2_with fail
    refine (hsp u2 qs2 _ hq2 hoz2.read).mono ?_
    rintro e w3 ⟨rfl, hb3⟩
    have z3 := blk_below z2 hb3
    have b3 := Nm.below_two b2 hb3
    have q0 := (blk_cell z3 0).trans rfl
    have q1 := (blk_cell z3 1).trans rfl
    clear z2 hsp hoz2
    go_wp2_with fail
    refine (hto _ b3).mono ?_
    rintro e w4 ⟨u4, qs4, rfl, hq4, hoz4, hb4⟩
    obtain ⟨ua4, uc4, hu4⟩ := own_sl hoz4.1
    subst hu4
    have z4 := blk_below z3 hb4
    have b4 := Nm.below_two b3 hb4
    have hbA := (Below.refl w4.heap.size w4).alloc (Nat.le_refl _) (.cells #[.string o, .slice ua4 qs4.length uc4] 29)
    have x4 := blk_new w4 #[.string o, .slice ua4 qs4.length uc4] 29
    have hszA : (w4.alloc (.cells #[.string o, .slice ua4 qs4.length uc4] 29)).heap.size = w4.heap.size + 1 := by simp
    have hozA := hoz4.below hbA
    clear q0 q1 z3
    go_wp2_with fail
    refine (him _ qs4 _ hq4 hozA.read).mono ?_
    rintro e w6 ⟨rfl, hb5⟩
    have z6 := blk_below (blk_below z4 hbA) hb5
    have x6 := blk_below x4 hb5
    have hbA5 := Nm.below_two hbA hb5
    have b6 := Nm.below_two b4 hbA5
    have hoz6 := hoz4.below hbA5
    clear z4 x4 hozA hoz4 hbA hbA5 hb5 hszA
    have hS : ∀ W, Below w6.heap.size w6 W → ((W.cell? ⟨w.heap.size, 0, none⟩ = some (.string o) ∧ W.cell? ⟨w.heap.size, 1, none⟩ = some (.slice a ps.length cap)) ∧ (W.cell? ⟨w4.heap.size, 0, none⟩ = some (.string o) ∧ W.cell? ⟨w4.heap.size, 1, none⟩ = some (.slice ua4 qs4.length uc4))) ∧ Below w6.heap.size w6 W := by
      intro W hW
      have y1 := blk_below z6 hW
      have y2 := blk_below x6 hW
      exact ⟨⟨⟨(blk_cell y1 0).trans rfl, (blk_cell y1 1).trans rfl⟩, (blk_cell y2 0).trans rfl, (blk_cell y2 1).trans rfl⟩, hW⟩
    have hS0 := hS w6.drew (Below.refl _ _).drew
    go_wp2
    go_region_held3 (fun W => ((W.cell? ⟨w.heap.size, 0, none⟩ = some (.string o) ∧ W.cell? ⟨w.heap.size, 1, none⟩ = some (.slice a ps.length cap)) ∧ (W.cell? ⟨w4.heap.size, 0, none⟩ = some (.string o) ∧ W.cell? ⟨w4.heap.size, 1, none⟩ = some (.slice ua4 qs4.length uc4))) ∧ Below w6.heap.size w6 W) (first | with_reducible assumption | with_reducible exact hS0) ((first | (go_at_call 9; refine (hto _ (Nm.below_two b6 hS0.2)).mono ?_; rintro e w7 ⟨u7, qs7, rfl, hq7, hoz7, hb7⟩; have hb67 : Below w6.heap.size w6 w7 := Nm.below_two (Below.refl _ _).drew hb7; have hS7 := hS _ hb67) | (go_at_call 11; refine (hez _ _ qs4 qs7 _ hq4 hq7 (hoz6.below hb67).read hoz7.read).mono ?_; rintro e w8 ⟨rfl, hb8⟩; have hb68 := Nm.below_two hb67 hb8; have hS8 := hS _ hb68)))
    have b8 := Nm.below_two b6 hb68
    go_wp2
    go_ret
    exact ⟨rfl, b8⟩
  · have e1 : szZ o ps 1048576 = -1 := if_neg hb
    rw [e1] at hsz
    clear hb e1 hx Z0
    go_enter Tryz.func3, Tryz.ntmps3
    go_wp2_with fail
    refine hsz.mono ?_
    rintro e w1 ⟨rfl, b1⟩
    go_wp2
    go_ret
    exact ⟨rfl, Nm.below_two hBa b1⟩
end Go.Proofs.YtnpegoclghfmpaaGreat
/- A set sought in a zone: mathematics. -/
namespace Go.Proofs.YtnpegoclghfmpaaGreat
open Go.RowKit
set_option linter.unusedVariables false

def fndZ (ss : List Sz) (name : ByteArray) (t : Int) : Option Sz := ss.find? fun s => decide (s.ty = t) && sameS s.own name
theorem TInv.nm {l : List It} {os : List GOw} (h : TInv l os) (hl : ∀ y ∈ l, GoodI y) {o : GOw} (ho : o ∈ os) : Nm.split o.nm = some o.lab := by
  obtain ⟨i, x, hF, h1, h2⟩ := h.own o ho
  rw [h1, h2]
  exact (hl x hF.mem).1
theorem fnd_at {os : List GOw} {name : ByteArray} {lab : List ByteArray} {t : Int} (hn : Nm.split name = some lab) (hnm : ∀ o ∈ os, Nm.split o.nm = some o.lab) : ∀ g ∈ grT os, (decide ((szT g).ty = t) && sameS (szT g).own name) = (decide (g.2.ty = t) && decide (Nm.cmpLs g.1.lab lab = 0)) := by
  intro g hg
  obtain ⟨h1, h2⟩ := grT_mem.1 hg
  simp only [szT]
  rw [same_cmp (hnm g.1 h1) hn]
  congr 1
theorem fnd_yes {l : List It} {os : List GOw} (hT : TInv l os) (hl : ∀ y ∈ l, GoodI y) {name : ByteArray} {lab : List ByteArray} {t : Int} (hn : Nm.split name = some lab) {o : GOw} {s : GSe} (ho : o ∈ os) (hs : s ∈ o.ss) (h1 : Nm.cmpLs o.lab lab = 0) (h2 : s.ty = t) : fndZ (zoneT os) name t = some (szT (o, s)) := by
  have hnm := fun o ho => hT.nm hl (o := o) ho
  rw [fndZ, zoneT, List.find?_map]
  have e : (grT os).find? ((fun s => decide (s.ty = t) && sameS s.own name) ∘ szT) = some (o, s) := by
    obtain ⟨i, g, hF⟩ := First.ex (P := fun g : GOw × GSe => g.2.ty = t ∧ Nm.cmpLs g.1.lab lab = 0) (l := grT os) ⟨(o, s), grT_mem.2 ⟨ho, hs⟩, h2, h1⟩
    have hg := grT_mem.1 hF.mem
    have e1 : g.1 = o := hT.one hg.1 ho (by rw [cmpLs_eq_right (cmpLs_symm h1) |>.symm]; exact hF.2.1.2)
    have e2 : g.2 = s := (hT.sorted.2 o ho).1.one (by rw [← e1]; exact hg.2) hs (by rw [hF.2.1.1, h2])
    have e3 : g = (o, s) := by rw [← e1, ← e2]
    rw [← e3]
    refine hF.find _ (fun y hy => ?_)
    show (decide ((szT y).ty = t) && sameS (szT y).own name) = true ↔ _
    rw [fnd_at hn hnm y hy]
    simp
  rw [e]
  rfl
theorem fnd_no {os : List GOw} {name : ByteArray} {lab : List ByteArray} {t : Int} (hn : Nm.split name = some lab) (hnm : ∀ o ∈ os, Nm.split o.nm = some o.lab) (h : ∀ o ∈ os, Nm.cmpLs o.lab lab = 0 → ∀ s ∈ o.ss, s.ty ≠ t) : fndZ (zoneT os) name t = none := by
  rw [fndZ, List.find?_eq_none]
  intro z hz
  obtain ⟨g, hg, rfl⟩ := List.mem_map.1 hz
  have hg' := grT_mem.1 hg
  rw [fnd_at hn hnm g hg]
  simp only [Bool.and_eq_true, decide_eq_true_eq, not_and]
  intro h1 h2
  exact h g.1 hg'.1 h2 g.2 hg'.2 h1
def sz0 : Sz := ⟨⟨#[]⟩, 0, 0, []⟩
end Go.Proofs.YtnpegoclghfmpaaGreat
/- (*tree).set by its contract. -/
namespace Go.Proofs.YtnpegoclghfmpaaGreat
open Go.RowKit
set_option linter.unusedVariables false

/-- A set that is handed back, or none. -/
def FsP (r : Option Sz) (w : World) (e : Ending) (w' : World) : Prop := ∃ v, e = .returned (.tuple #[.agg #[.string (r.getD sz0).own, .int .i64 (r.getD sz0).ty, .int .i64 (r.getD sz0).tt, v], .bool r.isSome]) ∧ w'.ownsRow w.heap.size 9 1 v (r.getD sz0).da.length ((r.getD sz0).da.map Value.string) ∧ Below w.heap.size w w'
theorem fsP_none {w w' : World} (h : Below w.heap.size w w') : FsP none w (.returned (.tuple #[.agg #[.string ⟨#[]⟩, .int .i64 0, .int .i64 0, .slice none 0 0], .bool false])) w' :=
  ⟨_, rfl, World.ownsRow_nil _ _ _ _, h⟩

theorem ow_one {os : List GOw} (h : OwS os) {o q : GOw} (ho : o ∈ os) (hq : q ∈ os) (e : Nm.cmpLs o.lab q.lab = 0) : o = q := by
  obtain ⟨i, hi⟩ := List.getElem?_of_mem ho
  obtain ⟨j, hj⟩ := List.getElem?_of_mem hq
  have hi' := List.getElem?_eq_some_iff.1 hi
  have hj' := List.getElem?_eq_some_iff.1 hj
  have hp := List.pairwise_iff_getElem.1 h
  rcases Nat.lt_trichotomy i j with h1 | h1 | h1
  · have := hp i j hi'.1 hj'.1 h1
    rw [hi'.2, hj'.2] at this
    omega
  · subst h1
    rw [hi] at hj
    exact Option.some.inj hj
  · have := hp j i hj'.1 hi'.1 h1
    rw [hi'.2, hj'.2] at this
    have h2 := cmpLs_anti o.lab q.lab
    omega
/-- A set stored into a block that is new. -/
theorem set_store {w w2 : World} {b B n : Nat} {x : ByteArray} {ty tt : Int} {v : Value} {xs : List Value} (k : Blk w2 b #[.string ⟨#[]⟩, .int .i64 0, .int .i64 0, .slice none 0 0] 35) (ho : w2.ownsRow B 9 1 v n xs) (hne : v.ownBlock ≠ some b) (hb : Below w.heap.size w w2) (hlb : w.heap.size ≤ b) :
    Blk ((((w2.setCell ⟨b, 0, none⟩ (.string x)).setCell ⟨b, 1, none⟩ (.int .i64 ty)).setCell ⟨b, 2, none⟩ (.int .i64 tt)).setCell ⟨b, 3, none⟩ v) b #[.string x, .int .i64 ty, .int .i64 tt, v] 35 ∧
    ((((w2.setCell ⟨b, 0, none⟩ (.string x)).setCell ⟨b, 1, none⟩ (.int .i64 ty)).setCell ⟨b, 2, none⟩ (.int .i64 tt)).setCell ⟨b, 3, none⟩ v).ownsRow B 9 1 v n xs ∧
    Below w.heap.size w ((((w2.setCell ⟨b, 0, none⟩ (.string x)).setCell ⟨b, 1, none⟩ (.int .i64 ty)).setCell ⟨b, 2, none⟩ (.int .i64 tt)).setCell ⟨b, 3, none⟩ v) := by
  have k4 := blk_set (blk_set (blk_set (blk_set k 0 (.string x)) 1 (.int .i64 ty)) 2 (.int .i64 tt)) 3 v
  simp only [List.setIfInBounds_toArray, List.set_cons_zero, List.set_cons_succ] at k4
  have ho4 := own_far (y := v) (i := 3) (g := b) (own_far (y := .int .i64 tt) (i := 2) (g := b) (own_far (y := .int .i64 ty) (i := 1) (g := b) (own_far (y := .string x) (i := 0) (g := b) ho hne) hne) hne) hne
  exact ⟨k4, ho4, (((hb.setCell (p := ⟨b, 0, none⟩) hlb (.string x)).setCell (p := ⟨b, 1, none⟩) hlb (.int .i64 ty)).setCell (p := ⟨b, 2, none⟩) hlb (.int .i64 tt)).setCell (p := ⟨b, 3, none⟩) hlb v⟩

set_option maxRecDepth 100000 in
set_option maxHeartbeats 800000 in
theorem ownerSet_no (o : GOw) (ty : Int) (B : Nat) (w : World) (h : OwAt w B o) (hl : o.ss.length ≤ 500000) (hd : SeS o.ss) (hn : isIn (sCmp ty) o.ss = false) :
    Calls Tryz.prog 73 #[ptr o.blk, .int .i64 ty] w (FsP none w) := by
  have hB0 := (Below.refl w.heap.size w).alloc (Nat.le_refl _) (.cells #[.string ⟨#[]⟩, .int .i64 0, .int .i64 0, .slice none 0 0] 35)
  have kZ := blk_new w #[.string ⟨#[]⟩, .int .i64 0, .int .i64 0, .slice none 0 0] 35
  have h1 := h.below hB0
  have hg := (getSet_any o B ty _ h1 hl hd).mono (R' := fun e w' => Below (w.heap.size + 1) (w.alloc (.cells #[.string ⟨#[]⟩, .int .i64 0, .int .i64 0, .slice none 0 0] 35)) w' ∧ e = .returned (.tuple #[.pointer none, .bool false])) (by
    rintro e w' ⟨hb, ⟨h2, _⟩ | ⟨_, rfl⟩⟩
    · rw [hn] at h2; cases h2
    · exact ⟨by simpa using hb, rfl⟩)
  have rn := fun i => blk_cell h1.node i
  unfold ptr at hg rn ⊢
  clear h h1 hd hn
  go_enter Tryz.func73, Tryz.ntmps73
  go_wp2_with fail
  refine hg.mono ?_
  rintro e w1 ⟨hb1, rfl⟩
  have bw1 : Below w.heap.size w w1 := hB0.trans (hb1.mono (Nat.le_succ _))
  have kZ1 : Blk w1 w.heap.size _ _ := blk_below kZ (by simpa using hb1)
  have rz := fun i => blk_cell kZ1 i
  have fz := fun i => blk_frozen kZ1 i
  obtain ⟨k4, -, bw4⟩ := set_store (x := ⟨#[]⟩) (ty := 0) (tt := 0) kZ1 (World.ownsRow_nil w1 0 9 1) (by simp [Value.ownBlock]) bw1 (Nat.le_refl _)
  have rk := fun i => blk_cell k4 i
  clear hg rn hb1 kZ kZ1
  go_wp2_with fail
  refine bodyPost_ret (v := .tuple #[.agg #[.string ⟨#[]⟩, .int .i64 0, .int .i64 0, .slice none 0 0], .bool false]) ?_ rfl (fsP_none bw4)
  simp [results, Tryz.f73, go_sem, rk]

theorem ownerSet_fs (o : GOw) (s : GSe) (B : Nat) (w : World) (h : OwAt w B o) (hl : o.ss.length ≤ 500000) (hd : SeS o.ss) (hs : s ∈ o.ss) (hsl : s.da.length ≤ 1000000) :
    Calls Tryz.prog 73 #[ptr o.blk, .int .i64 s.ty] w (FsP (some (szT (o, s))) w) := by
  refine (ownerSet_any o s B w h hl hd hs hsl).mono ?_
  rintro e w' ⟨v, rfl, ho, hb⟩
  refine ⟨v, rfl, ?_, hb⟩
  simpa [szT, List.map_map, Function.comp_def] using ho

/-- What (*tree).set answers. -/
def TsP (os : List GOw) (lab : List ByteArray) (ty : Int) (w : World) (e : Ending) (w' : World) : Prop :=
  (∃ o s, o ∈ os ∧ s ∈ o.ss ∧ Nm.cmpLs o.lab lab = 0 ∧ s.ty = ty ∧ FsP (some (szT (o, s))) w e w') ∨
  ((∀ o ∈ os, Nm.cmpLs o.lab lab = 0 → ∀ s ∈ o.ss, s.ty ≠ ty) ∧ FsP none w e w')

set_option maxRecDepth 100000 in
set_option maxHeartbeats 1600000 in
theorem treeSet_any (bb oo th : Nat) (rv : Value) (os : List GOw) (B : Nat) (na : Option Addr) (nl nc : Nat) (lab : List ByteArray) (ty : Int) (w : World) (h : TrAt w B th rv os) (hl : os.length ≤ 500000) (hd : TrS os) (hLab : LabAt w (fpT th rv os) os) (hn : Nm.SRow w (.slice na nl nc) lab) (hnl : lab.length ≤ 1000000000) (hc : w.cell? ⟨bb, oo + 1, none⟩ = some (ptr th)) (hbb : bb < w.heap.size) :
    Calls Tryz.prog 38 #[.pointer (some ⟨bb, oo, none⟩), .slice na nl nc, .int .i64 ty] w (TsP os lab ty w) := by
  have hB0 := (Below.refl w.heap.size w).alloc (Nat.le_refl _) (.cells #[.string ⟨#[]⟩, .int .i64 0, .int .i64 0, .slice none 0 0] 35)
  have kZ := blk_new w #[.string ⟨#[]⟩, .int .i64 0, .int .i64 0, .slice none 0 0] 35
  have hLab0 : LabAt (w.alloc (.cells #[.string ⟨#[]⟩, .int .i64 0, .int .i64 0, .slice none 0 0] 35)) (fpT th rv os) os := fun o ho => (hLab o ho).outs (Outs.below hB0) (fun b hb => .inl hb)
  have hg := getOwner_any th rv os B (.slice na nl nc) lab _ (h.below hB0) hl hd.1 hLab0 (hn.below hB0) hnl
  have hcs : ∀ W, Below w.heap.size w W → W.cell? ⟨bb, oo + 1, none⟩ = some (ptr th) := fun W hW => by rw [← hc]; exact hW.cell (p := ⟨bb, oo + 1, none⟩) hbb
  have hc0 := hcs _ hB0
  have HO : Hid (∀ o ∈ os, ∀ W, Below w.heap.size w W → (∃ s ∈ o.ss, s.ty = ty ∧ Calls Tryz.prog 73 #[ptr o.blk, .int .i64 ty] W (FsP (some (szT (o, s))) W)) ∨ ((∀ s ∈ o.ss, s.ty ≠ ty) ∧ Calls Tryz.prog 73 #[ptr o.blk, .int .i64 ty] W (FsP none W))) := by
    intro o ho W hW
    have hd2 := hd.2 o ho
    have hoA := (h.below hW).owners o ho
    cases hin : isIn (sCmp ty) o.ss with
    | true =>
      obtain ⟨s, hs, rfl⟩ := (isIn_set hd2.1 ty).1 hin
      exact .inl ⟨s, hs, rfl, ownerSet_fs o s B W hoA (by omega) hd2.1 hs (by have := (hd2.2.2 s hs).2; omega)⟩
    | false =>
      refine .inr ⟨fun s hs e => ?_, ownerSet_no o ty B W hoA (by omega) hd2.1 hin⟩
      rw [(isIn_set hd2.1 ty).2 ⟨s, hs, e⟩] at hin
      cases hin
  have HN : Hid (isIn (oCmp lab) os = false → ∀ o ∈ os, Nm.cmpLs o.lab lab = 0 → ∀ s ∈ o.ss, s.ty ≠ ty) := by
    intro hno o ho h1 s hs h2
    have := (hasT_iff ⟨hd.1, fun o ho => (hd.2 o ho).1⟩ lab ty).2 ⟨o, ho, h1, s, hs, h2⟩
    rw [hasT] at this
    cases hq : os[posOf (oCmp lab) os]? with
    | none => rw [hq] at this; cases this
    | some q => rw [hq, hno] at this; cases this
  have HS : Hid (OwS os) := hd.1
  unfold ptr at hc0 hg HO
  clear h hd hLab hn hLab0 hcs hc
  go_enter Tryz.func38, Tryz.ntmps38
  go_wp2_with fail
  refine hg.mono ?_
  rintro e w1 ⟨hb1, ⟨hin, o, ho, hcm, rfl⟩ | ⟨hin, rfl⟩⟩
  · have bw1 : Below w.heap.size w w1 := Nm.below_two hB0 hb1
    have kZ1 : Blk w1 w.heap.size _ _ := blk_below kZ hb1
    have hom := List.mem_of_getElem? ho
    have HCM := Nm.hide (And.intro hcm hom)
    rcases HO.out o hom w1 bw1 with ⟨s, hs, hst, hcall⟩ | ⟨hno, hcall⟩
    · have HR := Nm.hide (And.intro hs hst)
      clear hg hin ho hcm hom hs hst HO hb1 kZ hc0
      go_wp2_with fail
      refine hcall.mono ?_
      rintro e w2 ⟨v, rfl, hov, b2⟩
      obtain ⟨va, vc, rfl⟩ := own_sl hov
      have kZ2 := blk_below kZ1 b2
      have rz := fun i => blk_cell kZ2 i
      have fz := fun i => blk_frozen kZ2 i
      have hlt : w.heap.size < w1.heap.size := blk_lt kZ1
      obtain ⟨k4, ho4, bw4⟩ := set_store (x := (szT (o, s)).own) (ty := (szT (o, s)).ty) (tt := (szT (o, s)).tt) kZ2 hov (fun e => by have := (hov.lt _ e).1; omega) (Nm.below_two bw1 b2) (Nat.le_refl _)
      have rk := fun i => blk_cell k4 i
      have HP : Hid (TsP os lab ty w (.returned (.tuple #[.agg #[.string (szT (o, s)).own, .int .i64 (szT (o, s)).ty, .int .i64 (szT (o, s)).tt, .slice va (szT (o, s)).da.length vc], .bool true])) _) := .inl ⟨o, s, HCM.out.2, HR.out.1, HCM.out.1, HR.out.2, _, rfl, own_base ho4 bw1.size, bw4⟩
      simp only [Option.getD_some, Option.isSome_some]
      simp only [Option.getD_some] at rk
      generalize szT (o, s) = Z at *
      clear kZ1 kZ2 hlt k4 ho4 bw4 hov hcall
      go_wp2_with fail
      refine bodyPost_ret (v := .tuple #[.agg #[.string Z.own, .int .i64 Z.ty, .int .i64 Z.tt, .slice va Z.da.length vc], .bool true]) ?_ rfl HP.out
      simp [results, Tryz.f38, go_sem, rk]
    · have HR := Nm.hide hno
      have HQ : Hid (∀ q ∈ os, Nm.cmpLs q.lab lab = 0 → ∀ s ∈ q.ss, s.ty ≠ ty) := by
        intro q hq hq0 s hs
        have : q = o := ow_one HS.out hq hom (by rw [cmpLs_eq_right (cmpLs_symm hcm)] at hq0; exact hq0)
        subst this
        exact hno s hs
      clear hg hin ho hcm hom hno HO hb1 kZ hc0
      go_wp2_with fail
      refine hcall.mono ?_
      rintro e w2 ⟨v, rfl, hov, b2⟩
      obtain ⟨va, vc, rfl⟩ := own_sl hov
      have kZ2 := blk_below kZ1 b2
      have rz := fun i => blk_cell kZ2 i
      have fz := fun i => blk_frozen kZ2 i
      have hlt : w.heap.size < w1.heap.size := blk_lt kZ1
      obtain ⟨k4, ho4, bw4⟩ := set_store (x := ⟨#[]⟩) (ty := 0) (tt := 0) kZ2 hov (fun e => by have := (hov.lt _ e).1; omega) (Nm.below_two bw1 b2) (Nat.le_refl _)
      have rk := fun i => blk_cell k4 i
      have HP : Hid (TsP os lab ty w (.returned (.tuple #[.agg #[.string ⟨#[]⟩, .int .i64 0, .int .i64 0, .slice va 0 vc], .bool false])) _) := .inr ⟨HQ.out, _, rfl, own_base ho4 bw1.size, bw4⟩
      simp only [Option.getD_none, Option.isSome_none, sz0, List.length_nil] at rk ⊢
      clear kZ1 kZ2 hlt k4 ho4 bw4 hov hcall
      go_wp2_with fail
      refine bodyPost_ret (v := .tuple #[.agg #[.string ⟨#[]⟩, .int .i64 0, .int .i64 0, .slice va 0 vc], .bool false]) ?_ rfl HP.out
      simp [results, Tryz.f38, go_sem, rk]
  · have bw1 : Below w.heap.size w w1 := Nm.below_two hB0 hb1
    have kZ1 : Blk w1 w.heap.size _ _ := blk_below kZ hb1
    have rz := fun i => blk_cell kZ1 i
    have fz := fun i => blk_frozen kZ1 i
    obtain ⟨k4, -, bw4⟩ := set_store (x := ⟨#[]⟩) (ty := 0) (tt := 0) kZ1 (World.ownsRow_nil w1 0 9 1) (by simp [Value.ownBlock]) bw1 (Nat.le_refl _)
    have rk := fun i => blk_cell k4 i
    have HP := Nm.hide (HN.out hin)
    clear hg hin kZ kZ1 hb1 hc0 k4
    go_wp2_with fail
    refine bodyPost_ret (v := .tuple #[.agg #[.string ⟨#[]⟩, .int .i64 0, .int .i64 0, .slice none 0 0], .bool false]) ?_ rfl (.inr ⟨HP.out, fsP_none bw4⟩)
    simp [results, Tryz.f38, go_sem, rk]
end Go.Proofs.YtnpegoclghfmpaaGreat
/- What FindSet answers. -/
namespace Go.Proofs.YtnpegoclghfmpaaGreat
open Go.RowKit
set_option linter.unusedVariables false

/-- What FindSet answers. -/
def fsR (ps : List Zp) (o name : ByteArray) (t : Int) : Option Sz := if zOK ps o = true then fndZ (ps.map (·.1)) name t else none
end Go.Proofs.YtnpegoclghfmpaaGreat
/- impl.FindSet by its contract. -/
namespace Go.Proofs.YtnpegoclghfmpaaGreat
open Go.RowKit
set_option linter.unusedVariables false

theorem fnd_bad {ss : List Sz} {name : ByteArray} {t : Int} (h : (Nm.split name).isSome = false) : fndZ ss name t = none := by
  rw [fndZ, List.find?_eq_none]
  intro z hz
  simp [sameS, h]
theorem ts_fs {ps : List Zp} {o name : ByteArray} {t : Int} {bb : Nat} {lv : Value} {th : Nat} {ys : List ByteArray} {aa : Option Addr} {ac : Nat} {labv rv : Value} {os : List GOw} {kv : Value} {ks : List Ld} {B : Nat} {W0 W W' : World} {e : Ending} {lab : List ByteArray} (hP : P3 (zoneRecs ps) o bb lv th ys aa ac labv rv os kv ks B W0) (hz : zOK ps o = true) (hn : Nm.split name = some lab) (h : TsP os lab t W e W') : FsP (fsR ps o name t) W e W' := by
  have hzs : ps.map (·.1) = zoneT os := by rw [← (zOK_recs hz).2, zone_eq hP.st.inv hP.good.1 hP.mix]
  rw [fsR, if_pos hz, hzs]
  rcases h with ⟨o', s, ho, hs, h1, h2, h3⟩ | ⟨h1, h3⟩
  · rw [fnd_yes hP.st.inv hP.good.1 hn ho hs h1 h2]
    exact h3
  · rw [fnd_no hn (fun o ho => hP.st.inv.nm hP.good.1 ho) h1]
    exact h3

set_option maxRecDepth 100000 in
set_option maxHeartbeats 1600000 in
theorem implFindSet_any (o name : ByteArray) (t : Int) (v : Value) (ps : List Zp) (w : World) (h : ZRow w v ps) (hs : zsum ps ≤ 1048576) (hf : ∀ p ∈ ps, p.1.own.size ≤ 1048576 ∧ ∀ x ∈ p.1.da, x.size ≤ 1048576) (ha : o.size ≤ 1000000000) (hn : name.size ≤ 1000000000) :
    Calls Tryz.prog 13 #[.agg #[.string o, v], .string name, .int .i64 t] w (FsP (fsR ps o name t) w) := by
  obtain ⟨va, vc, rfl⟩ : ∃ va vc, v = .slice va ps.length vc := by obtain ⟨⟨_, a, c, e, _⟩, _⟩ := h; exact ⟨a, c, e⟩
  have b0 := (Below.refl w.heap.size w).alloc (Nat.le_refl _) (.cells #[.string o, .slice va ps.length vc] 29)
  have b1 := b0.alloc b0.size (.cells #[.string ⟨#[]⟩, .int .i64 0, .int .i64 0, .slice none 0 0] 35)
  have k0 := blk_alloc (blk_new w #[.string o, .slice va ps.length vc] 29) (.cells #[.string ⟨#[]⟩, .int .i64 0, .int .i64 0, .slice none 0 0] 35)
  have kS := blk_new (w.alloc (.cells #[.string o, .slice va ps.length vc] 29)) #[.string ⟨#[]⟩, .int .i64 0, .int .i64 0, .slice none 0 0] 35
  rw [World.size_alloc] at kS
  have hop := openZone_any o (.slice va ps.length vc) ps _ (h.below b1) hs hf ha
  have hsp := fun W => splitName_any name W (by unfold maxLen; omega)
  have r0 := fun i => blk_cell k0 i
  obtain ⟨R, hR⟩ : ∃ R, R = fsR ps o name t := ⟨_, rfl⟩
  have HR := Nm.hide hR
  rw [← hR]
  clear h hf hs hR
  go_enter Tryz.func13, Tryz.ntmps13
  go_wp2_with fail
  refine hop.mono ?_
  rintro e w1 ⟨hb1, ⟨hz, rfl⟩ | ⟨hz, bb, lv, th, ys, aa, ac, labv, rv, os, kv, ks, B, rfl, hP⟩⟩
  · have hR0 : R = none := by rw [HR.out, fsR, hz]; rfl
    have bw1 := Nm.below_two b1 hb1
    have kS1 := blk_below kS hb1
    clear HR hz hop k0 kS b0 b1 hb1 r0
    subst hR0
    go_wp2_with fail
    refine (hsp _).mono ?_
    rintro e w2 ⟨lv, rfl, hov, b2⟩
    generalize (Nm.split name).isSome = SB at *
    generalize (Nm.split name).getD [] = SL at *
    obtain ⟨la, lc, rfl⟩ := own_sl hov
    have kS2 := blk_below kS1 b2
    have rz := fun i => blk_cell kS2 i
    have fz := fun i => blk_frozen kS2 i
    obtain ⟨k4, -, bw4⟩ := set_store (x := ⟨#[]⟩) (ty := 0) (tt := 0) kS2 (World.ownsRow_nil w2 0 9 1) (by simp [Value.ownBlock]) (Nm.below_two bw1 b2) (Nat.le_succ _)
    have rk := fun i => blk_cell k4 i
    clear kS1 kS2 hov k4 hsp
    go_wp2_with fail
    refine bodyPost_ret (v := .tuple #[.agg #[.string ⟨#[]⟩, .int .i64 0, .int .i64 0, .slice none 0 0], .bool false]) ?_ rfl (fsP_none bw4)
    simp [results, Tryz.f13, go_sem, rk]
  · have bw1 := Nm.below_two b1 hb1
    have kS1 := blk_below kS hb1
    clear hop k0 kS b0 b1 hb1 r0
    go_wp2_with fail
    refine (hsp _).mono ?_
    rintro e w2 ⟨lv', rfl, hov, b2⟩
    have kS2 := blk_below kS1 b2
    have bw2 := Nm.below_two bw1 b2
    have hP2 := hP.below b2
    cases hsn : Nm.split name with
    | none =>
      rw [hsn] at hov
      have hR0 : R = none := by rw [HR.out, fsR, if_pos hz, fnd_bad (by rw [hsn]; rfl)]
      clear HR hz hP hP2 hsp hsn bw1 kS1
      subst hR0
      obtain ⟨la, lc, rfl⟩ := own_sl hov
      simp only [Option.isSome_none, Option.getD_none, List.length_nil] at hov ⊢
      have rz := fun i => blk_cell kS2 i
      have fz := fun i => blk_frozen kS2 i
      obtain ⟨k4, -, bw4⟩ := set_store (x := ⟨#[]⟩) (ty := 0) (tt := 0) kS2 (World.ownsRow_nil w2 0 9 1) (by simp [Value.ownBlock]) bw2 (Nat.le_succ _)
      have rk := fun i => blk_cell k4 i
      clear kS2 hov k4
      go_wp2_with fail
      refine bodyPost_ret (v := .tuple #[.agg #[.string ⟨#[]⟩, .int .i64 0, .int .i64 0, .slice none 0 0], .bool false]) ?_ rfl (fsP_none bw4)
      simp [results, Tryz.f13, go_sem, rk]
    | some lab =>
      rw [hsn] at hov
      simp only [Option.getD_some] at hov
      have hll : lab.length ≤ 1000000000 := by have := (lab_fit hsn).2; omega
      obtain ⟨la, lc, rfl⟩ := own_sl hov
      have hol := hP2.st.inv.len.1
      have hl5 := hP2.hl
      rw [List.length_map] at hol
      have hts := treeSet_any bb 3 th rv os B la lab.length lc lab t w2 hP2.st.tr (by omega) (hP2.st.inv.trs (by rw [List.length_map]; omega)) hP2.st.lab (Nm.SRow.of_owns hov) hll ((blk_cell hP2.kb 4).trans rfl) (blk_lt hP2.kb)
      have hts2 := hts.mono (R' := FsP R w2) (fun e W' hq => by rw [HR.out]; exact ts_fs hP2 hz hsn hq)
      clear HR hz hP hP2 hsp hsn bw1 kS1 hts hov hol hl5
      simp only [Option.isSome_some]
      go_wp2_with fail
      refine hts2.mono ?_
      rintro e w3 ⟨u, rfl, hou, b3⟩
      obtain ⟨ua, uc, rfl⟩ := own_sl hou
      have kS3 := blk_below kS2 b3
      have rz := fun i => blk_cell kS3 i
      have fz := fun i => blk_frozen kS3 i
      obtain ⟨k4, ho4, bw4⟩ := set_store (x := (R.getD sz0).own) (ty := (R.getD sz0).ty) (tt := (R.getD sz0).tt) kS3 hou (fun e => by have h1 := (hou.lt _ e).1; have h2 := blk_lt kS2; omega) (Nm.below_two bw2 b3) (Nat.le_succ _)
      have rk := fun i => blk_cell k4 i
      have HP : Hid (FsP R w (.returned (.tuple #[.agg #[.string (R.getD sz0).own, .int .i64 (R.getD sz0).ty, .int .i64 (R.getD sz0).tt, .slice ua (R.getD sz0).da.length uc], .bool R.isSome])) _) := ⟨_, rfl, own_base ho4 bw2.size, bw4⟩
      clear kS2 kS3 k4 ho4 bw4 hou hts2
      generalize R.isSome = RB at *
      generalize R.getD sz0 = RZ at *
      go_wp2_with fail
      refine bodyPost_ret (v := .tuple #[.agg #[.string RZ.own, .int .i64 RZ.ty, .int .i64 RZ.tt, .slice ua RZ.da.length uc], .bool RB]) ?_ rfl HP.out
      simp [results, Tryz.f13, go_sem, rk]
end Go.Proofs.YtnpegoclghfmpaaGreat
/- spec.l06CopySet by its contract. -/
namespace Go.Proofs.YtnpegoclghfmpaaGreat
open Go.RowKit
set_option linter.unusedVariables false

/-- What is copied so far. -/
structure Csp (w0 w : World) (g : Nat) (x : ByteArray) (ty tt : Int) (v u : Value) (n : Nat) (xs : List ByteArray) : Prop where
  ob : Blk w (g + 1 + 1) #[.string x, .int .i64 ty, .int .i64 tt, u] 35
  mb : Blk w g #[.string x, .int .i64 ty, .int .i64 tt, v] 35
  zb : Blk w (g + 1) #[.string ⟨#[]⟩, .int .i64 0, .int .i64 0, .slice none 0 0] 35
  own : w.ownsRow g 9 1 u n (xs.map Value.string)
  be : Below g w0 w
theorem Csp.below {w0 w w' : World} {g : Nat} {x : ByteArray} {ty tt : Int} {v u : Value} {n : Nat} {xs : List ByteArray} (c : Csp w0 w g x ty tt v u n xs) (hb : Below w.heap.size w w') (hg : g ≤ w.heap.size) : Csp w0 w' g x ty tt v u n xs :=
  ⟨blk_below c.ob hb, blk_below c.mb hb, blk_below c.zb hb, own_below c.own hb, c.be.trans (hb.mono hg)⟩
theorem Csp.grow {w0 w w' : World} {g : Nat} {x : ByteArray} {ty tt : Int} {v u : Value} {n : Nat} {xs : List ByteArray} (c : Csp w0 w g x ty tt v u n xs) (hg : w.grownBy w' u.ownBlock) (hw : g ≤ w.heap.size) :
    Blk w' (g + 1 + 1) #[.string x, .int .i64 ty, .int .i64 tt, u] 35 ∧ Blk w' g #[.string x, .int .i64 ty, .int .i64 tt, v] 35 ∧ Blk w' (g + 1) #[.string ⟨#[]⟩, .int .i64 0, .int .i64 0, .slice none 0 0] 35 ∧ Below g w0 w' :=
  ⟨blk_grown c.ob hg (own_nb c.own c.ob (by decide)), blk_grown c.mb hg (own_nb c.own c.mb (by decide)), blk_grown c.zb hg (own_nb c.own c.zb (by decide)), c.be.grown hg hw (fun k hk => (c.own.lt k hk).1)⟩

set_option maxRecDepth 100000 in
set_option maxHeartbeats 1600000 in
theorem l06CopySet_any (s : Sz) (v : Value) (w : World) (h : Nm.SRow w v s.da) (hl : s.da.length ≤ 100000000) :
    Calls Tryz.prog 70 #[.agg #[.string s.own, .int .i64 s.ty, .int .i64 s.tt, v]] w fun e w' => ∃ u, e = .returned (.agg #[.string s.own, .int .i64 s.ty, .int .i64 s.tt, u]) ∧ w'.ownsRow w.heap.size 9 1 u s.da.length (s.da.map Value.string) ∧ Below w.heap.size w w' := by
  obtain ⟨j0, hj, k0, k1, k2⟩ := info_parts Tryz.infoStr
  obtain ⟨x, ty, tt, ds⟩ := s
  simp only at h hl ⊢
  obtain ⟨va, vc, rfl, -, -, -, -⟩ := id h
  have hB0 := (Below.refl w.heap.size w).alloc (Nat.le_refl _) (.cells #[.string x, .int .i64 ty, .int .i64 tt, .slice va ds.length vc] 35)
  have hB1 := hB0.alloc hB0.size (.cells #[.string ⟨#[]⟩, .int .i64 0, .int .i64 0, .slice none 0 0] 35)
  have hB2 := hB1.alloc hB1.size (.cells #[.string x, .int .i64 ty, .int .i64 tt, .slice none 0 0] 35)
  have kM0 := blk_alloc (blk_new w #[.string x, .int .i64 ty, .int .i64 tt, .slice va ds.length vc] 35) (.cells #[.string ⟨#[]⟩, .int .i64 0, .int .i64 0, .slice none 0 0] 35)
  have kM := blk_alloc kM0 (.cells #[.string x, .int .i64 ty, .int .i64 tt, .slice none 0 0] 35)
  have kZ := blk_alloc (blk_new (w.alloc (.cells #[.string x, .int .i64 ty, .int .i64 tt, .slice va ds.length vc] 35)) #[.string ⟨#[]⟩, .int .i64 0, .int .i64 0, .slice none 0 0] 35) (.cells #[.string x, .int .i64 ty, .int .i64 tt, .slice none 0 0] 35)
  have kO := blk_new ((w.alloc (.cells #[.string x, .int .i64 ty, .int .i64 tt, .slice va ds.length vc] 35)).alloc (.cells #[.string ⟨#[]⟩, .int .i64 0, .int .i64 0, .slice none 0 0] 35)) #[.string x, .int .i64 ty, .int .i64 tt, .slice none 0 0] 35
  rw [World.size_alloc] at kZ
  rw [World.size_alloc, World.size_alloc] at kO
  have S3 : Csp w _ w.heap.size x ty tt (.slice va ds.length vc) (.slice none 0 0) 0 [] := ⟨kO, kM, kZ, World.ownsRow_nil _ _ _ _, hB2⟩
  have hd := fun W (hW : Below w.heap.size w W) => h.below hW
  have rr := fun i => blk_cell kM0 i
  clear h kM kZ kO hB0 hB1 hB2
  go_enter Tryz.func70, Tryz.ntmps70
  go_wp2_with fail
  clear rr kM0
  generalize hgg : w.heap.size = g at *
  have HGG := Nm.hide hgg
  clear hgg
  go_loopw [4] (fun i wr => ∃ (k : Nat) (qx : Option Addr) (qy : Nat), k ≤ ds.length ∧ i = .int .i64 k ∧ g ≤ wr.heap.size ∧ Csp w wr g x ty tt (.slice va ds.length vc) (.slice qx k qy) k (ds.take k)) (fun i _ => ds.length - (intOf i).toNat)
  case atStart => exact ⟨0, none, 0, Nat.zero_le _, rfl, by have := HGG.out; simp; omega, S3⟩
  case round =>
    clear S3
    obtain ⟨k, qx, qy, hk, rfl, hgw, Sk⟩ := hrel
    have ccM := fun i => blk_cell Sk.mb i
    have ccO := fun i => blk_cell Sk.ob i
    by_cases hlt : k < ds.length
    · obtain ⟨y, hyk⟩ : ∃ y, ds[k]? = some y := ⟨_, List.getElem?_eq_getElem hlt⟩
      obtain ⟨a9, c9, e9, _, _, _, hc9⟩ := hd wr Sk.be
      simp only [Value.slice.injEq] at e9
      obtain ⟨rfl, _, rfl⟩ := e9
      obtain ⟨b, off, rfl, hcell⟩ := hc9 (by intro e; rw [e] at hlt; simp at hlt)
      have d0 := hcell k y hyk
      have n1 : (0 : Int) ≤ (k : Int) := by omega
      have n2 : (k : Int) < (ds.length : Int) := by omega
      have e5 : ds.take (k + 1) = ds.take k ++ [y] := by
        obtain ⟨hi, e⟩ := List.getElem?_eq_some_iff.1 hyk
        rw [List.take_succ_eq_append_getElem hi, e]
      have HE5 := Nm.hide e5
      have HYK := Nm.hide hyk
      clear e5 hc9 hcell hyk
      go_wp2
      refine wp_region_last (fun W => Blk W (g + 1 + 1) #[.string x, .int .i64 ty, .int .i64 tt, .slice qx k qy] 35 ∧ Blk W g #[.string x, .int .i64 ty, .int .i64 tt, .slice (some ⟨b, off, none⟩) ds.length vc] 35 ∧ W.cell? ⟨b, off + k, none⟩ = some (.string y)) 10 (by kernel_rfl) ⟨Sk.ob, Sk.mb, d0⟩ (fun hHeld => ?_)
      refine wpAnyL_take (i := 0) (v := ?_) rfl (by kernel_rfl) (by kernel_rfl) (by kernel_rfl) (by kernel_rfl) (fun _ _ _ h => h) (Or.inl ⟨by rfl, ?_⟩) (by assumption) ?_
      rotate_left 1
      · (rintro W ⟨s1, s2, s3⟩; have ss1 := (fun i => blk_cell s1 i); have ss2 := (fun i => blk_cell s2 i); go_simp; first | done | rfl)
      refine wpAnyL_take (i := 1) (v := ?_) rfl (by kernel_rfl) (by kernel_rfl) (by kernel_rfl) (by kernel_rfl) (fun _ _ _ h => h) (Or.inl ⟨by rfl, ?_⟩) (by assumption) ?_
      rotate_left 1
      · (rintro W ⟨s1, s2, s3⟩; have ss1 := (fun i => blk_cell s1 i); have ss2 := (fun i => blk_cell s2 i); go_simp; first | done | rfl)
      refine wpAnyL_take (i := 2) (v := ?_) rfl (by kernel_rfl) (by kernel_rfl) (by kernel_rfl) (by kernel_rfl) (fun _ _ _ h => h) (Or.inl ⟨by rfl, ?_⟩) (by assumption) ?_
      rotate_left 1
      · (rintro W ⟨s1, s2, s3⟩; have ss1 := (fun i => blk_cell s1 i); have ss2 := (fun i => blk_cell s2 i); go_simp; first | done | rfl)
      refine wpAnyL_take (i := 3) (v := ?_) rfl (by kernel_rfl) (by kernel_rfl) (by kernel_rfl) (by kernel_rfl) (fun _ _ _ h => h) (Or.inl ⟨by rfl, ?_⟩) (by assumption) ?_
      rotate_left 1
      · (rintro W ⟨s1, s2, s3⟩; have ss1 := (fun i => blk_cell s1 i); have ss2 := (fun i => blk_cell s2 i); go_simp; first | done | rfl)
      refine wpAnyL_take (i := 4) (v := ?_) rfl (by kernel_rfl) (by kernel_rfl) (by kernel_rfl) (by kernel_rfl) (fun _ _ _ h => h) (Or.inl ⟨by rfl, ?_⟩) (by assumption) ?_
      rotate_left 1
      · (rintro W ⟨s1, s2, s3⟩; have ss1 := (fun i => blk_cell s1 i); have ss2 := (fun i => blk_cell s2 i); go_simp; first | done | rfl)
      refine wpAnyL_take (i := 5) (v := ?_) rfl (by kernel_rfl) (by kernel_rfl) (by kernel_rfl) (by kernel_rfl) (fun _ _ _ h => h) (Or.inl ⟨by rfl, ?_⟩) (by assumption) ?_
      rotate_left 1
      · (rintro W ⟨s1, s2, s3⟩; have ss1 := (fun i => blk_cell s1 i); have ss2 := (fun i => blk_cell s2 i); go_simp; first | done | rfl)
      refine wpAnyL_take (i := 6) (v := ?_) rfl (by kernel_rfl) (by kernel_rfl) (by kernel_rfl) (by kernel_rfl) (fun _ _ _ h => h) (Or.inl ⟨by rfl, ?_⟩) (by assumption) ?_
      rotate_left 1
      · (rintro W ⟨s1, s2, s3⟩; have ss1 := (fun i => blk_cell s1 i); have ss2 := (fun i => blk_cell s2 i); go_simp; first | done | rfl)
      have hbA := ((Below.refl wr.heap.size wr).alloc (Nat.le_refl _) (.cells #[.string y] 9)).drew
      have SA := Sk.below hbA hgw
      have e0 : (wr.alloc (.cells #[.string y] 9)).drew.cell? ⟨b, off + k, none⟩ = some (.string y) := (hbA.cell (World.block_lt_of_cell? wr _ d0)).trans d0
      have hoA := SA.own
      refine wpAnyL_one (i := 7) (by kernel_rfl) rfl (fun K hK => ?_)
      go_simp
      refine hK.out _ _ ⟨SA.ob, SA.mb, e0⟩ (fun hH2 => ?_)
      clear hK K
      refine wpAnyL_one (i := 8) (by kernel_rfl) rfl (fun K hK => ?_)
      refine step_append_own rfl (.tmp 20) (.tmp 26) 33 rfl g 9 j0 (.string ByteArray.empty) 1 16 Tryz.underlying33 hj k0 k1 k2 rfl (by decide) (.slice qx k qy) k ((ds.take k).map Value.string) (by rfl) hoA ⟨wr.heap.size, 0, none⟩ 1 1 [.string y] (by rfl) rfl (cell_newV _ #[.string y] _) (by intro u hu; simp at hu; subst hu; rfl) (by unfold maxLen; omega) (by omega) (by simp; omega) ?_
      intro va' wa hown9 hgrow9 hnl9
      clear hnl9
      obtain ⟨xb, yb, hvb⟩ := own_sl hown9
      subst hvb
      obtain ⟨ob9, mb9, zb9, be9⟩ := SA.grow hgrow9 (by simp; omega)
      obtain ⟨a8, c8, e8, _, _, _, hc8⟩ := hd wa be9
      simp only [Value.slice.injEq] at e8
      obtain ⟨rfl, _, rfl⟩ := e8
      obtain ⟨b8, off8, e7, hcell8⟩ := hc8 (by intro e; rw [e] at hlt; simp at hlt)
      simp only [Option.some.injEq, Addr.mk.injEq, and_true] at e7
      obtain ⟨rfl, rfl⟩ := e7
      have f0 := hcell8 k y HYK.out
      refine hK.out _ _ ⟨ob9, mb9, f0⟩ (fun hH3 => ?_)
      clear hK K
      refine wpAnyL_take (i := 9) (v := ?_) rfl (by kernel_rfl) (by kernel_rfl) (by kernel_rfl) (by kernel_rfl) (fun _ _ _ h => h) (Or.inl ⟨by rfl, ?_⟩) (by assumption) ?_
      rotate_left 1
      · (rintro W ⟨s1, s2, s3⟩; have ss1 := (fun i => blk_cell s1 i); have ss2 := (fun i => blk_cell s2 i); go_simp; first | done | rfl)
      have g9 := fun i => blk_cell ob9 i
      have h9 := fun i => blk_frozen ob9 i
      refine wpAnyL_end (by kernel_rfl) rfl (by kernel_rfl) (fun K hK => ?_)
      go_simp
      refine hK.out _ _ ?_
      clear hK K
      have hrow9 : wa.ownsRow g 9 1 (.slice xb (k + 1) yb) (k + 1) ((ds.take (k + 1)).map Value.string) := by
        rw [HE5.out, List.map_append]
        exact hown9
      have S9 : Csp w (wa.setCell ⟨g + 1 + 1, 3, none⟩ (.slice xb (k + 1) yb)) g x ty tt (.slice (some ⟨b, off, none⟩) ds.length vc) (.slice xb (k + 1) yb) (k + 1) (ds.take (k + 1)) :=
        ⟨blk_set ob9 3 _, blk_far mb9 (by omega), blk_far zb9 (by omega), own_far hrow9 (own_nb hrow9 ob9 (by decide)), be9.setCell (Nat.le_add_right g 2) _⟩
      have HS9 := Nm.hide S9
      have HK9 : Hid (k + 1 ≤ ds.length) := hlt
      have HG9 : Hid (g ≤ (wa.setCell ⟨g + 1 + 1, 3, none⟩ (.slice xb (k + 1) yb)).heap.size) := by
        show _ ≤ _
        have h1 := hgrow9.size
        simp at h1 ⊢
        omega
      clear S9 hrow9 ob9 mb9 zb9 be9 SA Sk hown9 hgrow9 hoA e0 hbA f0 d0 g9 h9 hH3 hH2 hHeld ccM ccO hcell8 hc8
      go_wp2
      go_roundw
      case rel => exact ⟨k + 1, xb, yb, HK9.out, by go_num, HG9.out, HS9.out⟩
      case measure => simp [intOf]; omega
    · obtain rfl : k = ds.length := by omega
      rw [List.take_length] at Sk
      have i9 : (ds.length : Int) ≤ (ds.length : Int) := by omega
      have cz := fun i => blk_cell Sk.zb i
      have fz := fun i => blk_frozen Sk.zb i
      have k4 := blk_set (blk_set (blk_set (blk_set Sk.zb 0 (.string x)) 1 (.int .i64 ty)) 2 (.int .i64 tt)) 3 (.slice qx ds.length qy)
      simp only [List.setIfInBounds_toArray, List.set_cons_zero, List.set_cons_succ] at k4
      have hne := own_nb Sk.own Sk.zb (by decide)
      have ho4 := own_far (y := .slice qx ds.length qy) (i := 3) (g := g + 1) (own_far (y := .int .i64 tt) (i := 2) (g := g + 1) (own_far (y := .int .i64 ty) (i := 1) (g := g + 1) (own_far (y := .string x) (i := 0) (g := g + 1) Sk.own hne) hne) hne) hne
      have hlb : g ≤ g + 1 := Nat.le_succ g
      have bw4 := (((Sk.be.setCell (p := ⟨g + 1, 0, none⟩) hlb (.string x)).setCell (p := ⟨g + 1, 1, none⟩) hlb (.int .i64 ty)).setCell (p := ⟨g + 1, 2, none⟩) hlb (.int .i64 tt)).setCell (p := ⟨g + 1, 3, none⟩) hlb (.slice qx ds.length qy)
      have rk := fun i => blk_cell k4 i
      clear hd k4 hne Sk
      go_wp2_with fail
      refine bodyPost_ret (v := .agg #[.string x, .int .i64 ty, .int .i64 tt, .slice qx ds.length qy]) ?_ rfl ⟨_, rfl, by rw [HGG.out]; exact ho4, by rw [HGG.out]; exact bw4⟩
      simp [results, Tryz.f70, go_sem, rk]
end Go.Proofs.YtnpegoclghfmpaaGreat
/- spec.l06Find, spec.FindSet by their contracts. -/
namespace Go.Proofs.YtnpegoclghfmpaaGreat
open Go.RowKit
set_option linter.unusedVariables false

theorem fnd_hit {ps : List Zp} {name : ByteArray} {t : Int} {j : Nat} {q : Zp} (hq : ps[j]? = some q) (hb : ∀ i p, i < j → ps[i]? = some p → (decide (p.1.ty = t) && sameS p.1.own name) = false) (h : (decide (q.1.ty = t) && sameS q.1.own name) = true) : fndZ (ps.map (·.1)) name t = some q.1 := by
  induction ps generalizing j with
  | nil => simp at hq
  | cons p ps ih =>
    rw [fndZ, List.map_cons, List.find?_cons]
    cases j with
    | zero =>
      simp only [List.getElem?_cons_zero, Option.some.injEq] at hq
      subst hq
      simp only [h]
    | succ j =>
      have h0 := hb 0 p (by omega) rfl
      simp only [h0]
      exact ih (by simpa using hq) (fun i p' hi hp' => hb (i + 1) p' (by omega) (by simpa using hp'))
theorem fnd_miss {ps : List Zp} {name : ByteArray} {t : Int} (hb : ∀ i p, i < ps.length → ps[i]? = some p → (decide (p.1.ty = t) && sameS p.1.own name) = false) : fndZ (ps.map (·.1)) name t = none := by
  rw [fndZ, List.find?_eq_none]
  intro z hz
  obtain ⟨p, hp, rfl⟩ := List.mem_map.1 hz
  obtain ⟨i, hi⟩ := List.getElem?_of_mem hp
  rw [hb i p (List.getElem?_eq_some_iff.1 hi).1 hi]
  simp

set_option maxRecDepth 100000 in
set_option maxHeartbeats 1600000 in
theorem l06Find_any (o name : ByteArray) (t : Int) (v : Value) (ps : List Zp) (w : World) (h : ZRow w v ps) (hl : ps.length ≤ 1048576) (hf : ∀ p ∈ ps, p.1.own.size ≤ 1048576 ∧ p.1.da.length ≤ 1048576) (hn : name.size ≤ maxLen) :
    Calls Tryz.prog 36 #[.agg #[.string o, v], .string name, .int .i64 t] w (FsP (fndZ (ps.map (·.1)) name t) w) := by
  obtain ⟨va, vc, rfl⟩ : ∃ va vc, v = .slice va ps.length vc := by obtain ⟨⟨_, a, c, e, _⟩, _⟩ := h; exact ⟨a, c, e⟩
  have b0 := (Below.refl w.heap.size w).alloc (Nat.le_refl _) (.cells #[.string o, .slice va ps.length vc] 29)
  have b1 := b0.alloc b0.size (.cells #[.string ⟨#[]⟩, .int .i64 0, .int .i64 0, .slice none 0 0] 35)
  have k0 := blk_alloc (blk_new w #[.string o, .slice va ps.length vc] 29) (.cells #[.string ⟨#[]⟩, .int .i64 0, .int .i64 0, .slice none 0 0] 35)
  have kS := blk_new (w.alloc (.cells #[.string o, .slice va ps.length vc] 29)) #[.string ⟨#[]⟩, .int .i64 0, .int .i64 0, .slice none 0 0] 35
  rw [World.size_alloc] at kS
  have HZ := Nm.hide (fun W (hW : Below w.heap.size w W) => h.below hW)
  have HF := Nm.hide hf
  have HG : Hid (∀ W, Below w.heap.size w W → w.heap.size ≤ W.heap.size) := fun W hW => hW.size
  clear h hf b0
  go_enter Tryz.func36, Tryz.ntmps36
  go_wp2_with fail
  generalize hgg : w.heap.size = g at *
  have HGG := Nm.hide hgg
  clear hgg
  go_loopw [8] (fun i wr => ∃ (j : Nat), j ≤ ps.length ∧ i = .int .i64 j ∧ Below g w wr ∧ Blk wr g #[.string o, .slice va ps.length vc] 29 ∧ Blk wr (g + 1) #[.string ⟨#[]⟩, .int .i64 0, .int .i64 0, .slice none 0 0] 35 ∧ ∀ i p, i < j → ps[i]? = some p → (decide (p.1.ty = t) && sameS p.1.own name) = false) (fun i _ => ps.length - (intOf i).toNat)
  case atStart => exact ⟨0, Nat.zero_le _, rfl, b1, k0, kS, fun i p hi => by omega⟩
  case round =>
    clear b1 k0 kS
    obtain ⟨j, hj, rfl, hb, kz, ks, hno⟩ := hrel
    have HNO := Nm.hide hno
    have hgw := HG.out _ hb
    have rz := fun i => blk_cell kz i
    clear hno
    by_cases hlt : j < ps.length
    · obtain ⟨q, hq⟩ : ∃ q, ps[j]? = some q := ⟨_, List.getElem?_eq_getElem hlt⟩
      have hzr := HZ.out _ hb
      obtain ⟨⟨_, a9, c9, e9, _, _, hc9⟩, hd9⟩ := hzr
      simp only [Value.slice.injEq] at e9
      obtain ⟨rfl, _, rfl⟩ := e9
      obtain ⟨b, off, rfl, hcell⟩ := hc9 (by omega)
      obtain ⟨d0, d1, d2, d3⟩ := zp_cells hcell hq
      have hfq := HF.out q (List.mem_of_getElem? hq)
      have hsr := hd9 q (List.mem_of_getElem? hq)
      have n1 : (0 : Int) ≤ (j : Int) := by omega
      have n2 : (j : Int) < (ps.length : Int) := by omega
      have hsm := specSameName_any q.1.own name wr (by unfold maxLen; omega) hn
      have HQ := Nm.hide hq
      have HSR := Nm.hide hsr
      clear hc9 hd9 hcell hq hsr
      obtain ⟨⟨x, ty, tt, ds⟩, u⟩ := q
      simp only at d0 d1 d2 d3 hsm hfq
      obtain ⟨ua, uc, hu⟩ : ∃ ua uc, u = .slice ua ds.length uc := by obtain ⟨a, c, e, _⟩ := HSR.out; exact ⟨a, c, e⟩
      subst hu
      by_cases hty : ty = t
      · subst hty
        have t1 : (ty == ty) = true := by simp
        cases hsb : sameS x name with
        | true =>
          rw [hsb] at hsm
          have HR : Hid (fndZ (ps.map (·.1)) name ty = some ⟨x, ty, tt, ds⟩) := fnd_hit HQ.out HNO.out (by simp [hsb])
          clear hsb
          go_wp2_with fail
          refine hsm.mono ?_
          rintro e w1 ⟨rfl, b1⟩
          have kz1 := blk_below kz b1
          have ks1 := blk_below ks b1
          have bw1 := hb.trans (b1.mono hgw)
          have rz1 := fun i => blk_cell kz1 i
          have up := fun {O : Nat} {z : Value} (hz : wr.cell? ⟨b, O, none⟩ = some z) => (b1.cell (World.block_lt_of_cell? wr _ hz)).trans hz
          have f0 := up d0
          have f1 := up d1
          have f2 := up d2
          have f3 := up d3
          have hcp := l06CopySet_any ⟨x, ty, tt, ds⟩ (.slice ua ds.length uc) w1 (HSR.out.below b1) (by have := hfq.2; simp only; omega)
          simp only at hcp
          clear rz d0 d1 d2 d3 hsm up kz
          go_wp2_with fail
          refine hcp.mono ?_
          rintro e w2 ⟨u2, rfl, ho2, b2⟩
          obtain ⟨xa, xc, rfl⟩ := own_sl ho2
          have ks2 := blk_below ks1 b2
          have cz := fun i => blk_cell ks2 i
          have fz := fun i => blk_frozen ks2 i
          have hg1 := HG.out _ bw1
          have bw2 := bw1.trans (b2.mono hg1)
          rw [← HGG.out] at bw2
          obtain ⟨k4, ho4, bw4⟩ := set_store (x := x) (ty := ty) (tt := tt) ks2 ho2 (fun e => by have h1 := (ho2.lt _ e).1; have h2 := blk_lt ks1; omega) bw2 (by rw [HGG.out]; exact Nat.le_succ _)
          have rk := fun i => blk_cell k4 i
          have HP0 : FsP (some ⟨x, ty, tt, ds⟩) w (.returned (.tuple #[.agg #[.string x, .int .i64 ty, .int .i64 tt, .slice xa ds.length xc], .bool true])) _ := ⟨_, rfl, own_base ho4 (by rw [HGG.out]; exact hg1), bw4⟩
          rw [← HR.out] at HP0
          have HP := Nm.hide HP0
          clear HP0
          clear ks ks1 ks2 kz1 rz1 hcp k4 ho4 bw4 ho2 f0 f1 f2 f3
          go_wp2_with fail
          refine bodyPost_ret (v := .tuple #[.agg #[.string x, .int .i64 ty, .int .i64 tt, .slice xa ds.length xc], .bool true]) ?_ rfl HP.out
          simp [results, Tryz.f36, go_sem, rk]
        | false =>
          rw [hsb] at hsm
          have HN : Hid (∀ i p, i < j + 1 → ps[i]? = some p → (decide (p.1.ty = ty) && sameS p.1.own name) = false) := fun i p hi hp => by
            rcases Nat.lt_or_ge i j with h1 | h1
            · exact HNO.out i p h1 hp
            · obtain rfl : i = j := by omega
              rw [HQ.out] at hp
              obtain rfl := Option.some.inj hp
              simp [hsb]
          clear hsb
          go_wp2_with (go_at_call 69; refine hsm.mono ?_; rintro e w1 ⟨rfl, b1⟩)
          go_roundw
          case rel => exact ⟨j + 1, hlt, by go_num, hb.trans (b1.mono hgw), blk_below kz b1, blk_below ks b1, HN.out⟩
          case measure => simp [intOf]; omega
      · have t1 : (ty == t) = false := by simp [hty]
        have HN : Hid (∀ i p, i < j + 1 → ps[i]? = some p → (decide (p.1.ty = t) && sameS p.1.own name) = false) := fun i p hi hp => by
          rcases Nat.lt_or_ge i j with h1 | h1
          · exact HNO.out i p h1 hp
          · obtain rfl : i = j := by omega
            rw [HQ.out] at hp
            obtain rfl := Option.some.inj hp
            simp [hty]
        clear hty hsm
        go_wp2
        go_roundw
        case rel => exact ⟨j + 1, hlt, by go_num, hb, kz, ks, HN.out⟩
        case measure => simp [intOf]; omega
    · obtain rfl : j = ps.length := by omega
      have i9 : (ps.length : Int) ≤ (ps.length : Int) := by omega
      have HR : Hid (fndZ (ps.map (·.1)) name t = none) := fnd_miss HNO.out
      have cz := fun i => blk_cell ks i
      have fz := fun i => blk_frozen ks i
      rw [← HGG.out] at hb
      obtain ⟨k4, -, bw4⟩ := set_store (x := ⟨#[]⟩) (ty := 0) (tt := 0) ks (World.ownsRow_nil wr 0 9 1) (by simp [Value.ownBlock]) hb (by rw [HGG.out]; exact Nat.le_succ _)
      have rk := fun i => blk_cell k4 i
      have HP0 := fsP_none bw4
      rw [← HR.out] at HP0
      have HP := Nm.hide HP0
      clear HP0
      clear ks k4 bw4
      go_wp2_with fail
      refine bodyPost_ret (v := .tuple #[.agg #[.string ⟨#[]⟩, .int .i64 0, .int .i64 0, .slice none 0 0], .bool false]) ?_ rfl HP.out
      simp [results, Tryz.f36, go_sem, rk]

set_option maxRecDepth 100000 in
set_option maxHeartbeats 1600000 in
theorem specFindSet_any (o name : ByteArray) (t : Int) (v : Value) (ps : List Zp) (w : World) (h : ZRow w v ps) (hs : zsum ps ≤ 1048576) (hl : ps.length ≤ 1048576) (hf : ∀ p ∈ ps, p.1.own.size ≤ 1048576 ∧ p.1.da.length ≤ 1048576 ∧ ∀ x ∈ p.1.da, x.size ≤ 1048576) (ha : o.size ≤ maxLen) (hn : name.size ≤ maxLen) :
    Calls Tryz.prog 12 #[.agg #[.string o, v], .string name, .int .i64 t] w (FsP (fsR ps o name t) w) := by
  obtain ⟨va, vc, rfl⟩ : ∃ va vc, v = .slice va ps.length vc := by obtain ⟨⟨_, a, c, e, _⟩, _⟩ := h; exact ⟨a, c, e⟩
  have b0 := (Below.refl w.heap.size w).alloc (Nat.le_refl _) (.cells #[.string o, .slice va ps.length vc] 29)
  have b1 := b0.alloc b0.size (.cells #[.string ⟨#[]⟩, .int .i64 0, .int .i64 0, .slice none 0 0] 35)
  have k0 := blk_alloc (blk_new w #[.string o, .slice va ps.length vc] 29) (.cells #[.string ⟨#[]⟩, .int .i64 0, .int .i64 0, .slice none 0 0] 35)
  have kS := blk_new (w.alloc (.cells #[.string o, .slice va ps.length vc] 29)) #[.string ⟨#[]⟩, .int .i64 0, .int .i64 0, .slice none 0 0] 35
  rw [World.size_alloc] at kS
  have hck := specCheckZone_any o (.slice va ps.length vc) ps _ (h.below b1) hs hl (fun p hp => ⟨(hf p hp).1, (hf p hp).2.2⟩) ha
  have HFd := Nm.hide (fun W (hW : Below w.heap.size w W) => l06Find_any o name t (.slice va ps.length vc) ps W (h.below hW) hl (fun p hp => ⟨(hf p hp).1, (hf p hp).2.1⟩) hn)
  have r0 := fun i => blk_cell k0 i
  clear h hf hs b0
  cases hz : zOK ps o with
  | false =>
    rw [hz] at hck
    simp only [Bool.false_eq_true, if_false] at hck
    have HR : Hid (fsR ps o name t = none) := by show _ = _; rw [fsR, hz]; rfl
    clear hz HFd
    go_enter Tryz.func12, Tryz.ntmps12
    go_wp2_with fail
    refine hck.mono ?_
    rintro e w1 ⟨rfl, hb1⟩
    have kS1 := blk_below kS hb1
    have rz := fun i => blk_cell kS1 i
    have fz := fun i => blk_frozen kS1 i
    obtain ⟨k4, -, bw4⟩ := set_store (x := ⟨#[]⟩) (ty := 0) (tt := 0) kS1 (World.ownsRow_nil w1 0 9 1) (by simp [Value.ownBlock]) (Nm.below_two b1 hb1) (Nat.le_succ _)
    have rk := fun i => blk_cell k4 i
    have HP := Nm.hide (fsP_none bw4)
    clear kS kS1 k0 r0 k4 bw4 hck
    go_wp2_with fail
    refine bodyPost_ret (v := .tuple #[.agg #[.string ⟨#[]⟩, .int .i64 0, .int .i64 0, .slice none 0 0], .bool false]) ?_ rfl (by rw [HR.out]; exact HP.out)
    simp [results, Tryz.f12, go_sem, rk]
  | true =>
    rw [hz] at hck
    simp only [if_true] at hck
    have HR : Hid (fsR ps o name t = fndZ (ps.map (·.1)) name t) := by show _ = _; rw [fsR, if_pos hz]
    clear hz
    go_enter Tryz.func12, Tryz.ntmps12
    go_wp2_with fail
    refine hck.mono ?_
    rintro e w1 ⟨rfl, hb1⟩
    have bw1 := Nm.below_two b1 hb1
    have kS1 := blk_below kS hb1
    have k1 := blk_below k0 hb1
    have r1 := fun i => blk_cell k1 i
    have hfd := HFd.out _ bw1
    rw [← HR.out] at hfd
    clear HR HFd kS k0 r0 hck hb1 b1
    generalize fsR ps o name t = R at *
    go_wp2_with fail
    refine hfd.mono ?_
    rintro e w2 ⟨u, rfl, hou, b2⟩
    obtain ⟨ua, uc, rfl⟩ := own_sl hou
    have kS2 := blk_below kS1 b2
    have rz := fun i => blk_cell kS2 i
    have fz := fun i => blk_frozen kS2 i
    obtain ⟨k4, ho4, bw4⟩ := set_store (x := (R.getD sz0).own) (ty := (R.getD sz0).ty) (tt := (R.getD sz0).tt) kS2 hou (fun e => by have h1 := (hou.lt _ e).1; have h2 := blk_lt kS1; omega) (Nm.below_two bw1 b2) (Nat.le_succ _)
    have rk := fun i => blk_cell k4 i
    have HP : Hid (FsP R w (.returned (.tuple #[.agg #[.string (R.getD sz0).own, .int .i64 (R.getD sz0).ty, .int .i64 (R.getD sz0).tt, .slice ua (R.getD sz0).da.length uc], .bool R.isSome])) _) := ⟨_, rfl, own_base ho4 bw1.size, bw4⟩
    clear kS1 kS2 k4 ho4 bw4 hou hfd k1 r1
    generalize R.isSome = RB at *
    generalize R.getD sz0 = RZ at *
    go_wp2_with fail
    refine bodyPost_ret (v := .tuple #[.agg #[.string RZ.own, .int .i64 RZ.ty, .int .i64 RZ.tt, .slice ua RZ.da.length uc], .bool RB]) ?_ rfl HP.out
    simp [results, Tryz.f12, go_sem, rk]
end Go.Proofs.YtnpegoclghfmpaaGreat
/- laws.markSet, laws.heldSet by their contracts. -/
namespace Go.Proofs.YtnpegoclghfmpaaGreat
open Go.RowKit
set_option linter.unusedVariables false

set_option maxHeartbeats 800000 in
theorem markSet_own (x : ByteArray) (ty tt : Int) (v : Value) (n B k : Nat) (xs : List Value) (w : World) (h : w.ownsRow B 9 1 v n xs) (hn : n ≤ 1000000) (hk : k ≤ 1000000) :
    Calls Tryz.prog 16 #[.agg #[.string x, .int .i64 ty, .int .i64 tt, v], .int .i64 (k : Int)] w fun e w' => e = .returned (.int .i64 ((k + n : Nat) : Int)) ∧ w'.ownsRow B 9 1 v n ((mks k n).map Value.string) ∧ ∃ w1, Below w.heap.size w w1 ∧ w1.grownBy w' v.ownBlock := by
  have hB := (Below.refl w.heap.size w).alloc (Nat.le_refl _) (.cells #[.string x, .int .i64 ty, .int .i64 tt, v] 35)
  have hone := markStringS_own v n B k xs _ (own_below h hB) hn hk
  obtain ⟨a, cap, rfl⟩ := own_sl h
  clear h
  go_enter Tryz.func16, Tryz.ntmps16
  go_wp2_with (go_at_call 21; refine hone.mono ?_; rintro e w1 ⟨rfl, hz, hm⟩)
  go_ret
  exact ⟨rfl, hz, _, hB, hm⟩

set_option maxHeartbeats 800000 in
theorem heldSet_any (x : ByteArray) (ty tt : Int) (v : Value) (n k : Nat) (w : World) (h : Nm.SRow w v (mks k n)) (hn : n ≤ 1000000) (hk : k ≤ 1000000) :
    Calls Tryz.prog 17 #[.agg #[.string x, .int .i64 ty, .int .i64 tt, v], .int .i64 (k : Int)] w fun e w' => e = .returned (.int .i64 ((k + n : Nat) : Int)) ∧ Below w.heap.size w w' := by
  have hB := (Below.refl w.heap.size w).alloc (Nat.le_refl _) (.cells #[.string x, .int .i64 ty, .int .i64 tt, v] 35)
  have hone := heldStringS_any v n k _ (h.below hB) hn hk
  obtain ⟨a, cap, rfl, _⟩ := h
  rw [mks_len] at *
  have hnn : (0 : Int) ≤ ((k + n : Nat) : Int) := by omega
  generalize ((k + n : Nat) : Int) = R at *
  go_enter Tryz.func17, Tryz.ntmps17
  go_wp2_with (go_at_call 22; refine hone.mono ?_; rintro e w1 ⟨rfl, hb⟩)
  go_ret
  exact ⟨rfl, Nm.below_two hB hb⟩
end Go.Proofs.YtnpegoclghfmpaaGreat
