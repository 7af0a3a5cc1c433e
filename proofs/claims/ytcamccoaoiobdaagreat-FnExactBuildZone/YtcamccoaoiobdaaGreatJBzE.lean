import Derived.Test.YtcamccoaoiobdaaGreatBzD
import Derived.Test.YtcamccoaoiobdaaGreatZbZ
import Derived.Test.YtcamccoaoiobdaaGreatJMath
import Derived.Test.YtcamccoaoiobdaaGreatJSSmall
import Derived.Test.YtcamccoaoiobdaaGreatRows
import Derived.WalkSpells
import Derived.WalkLawsBesides
import Derived.RegionTactic
import Derived.ChangeAlike
import Derived.BigRegion
import Derived.Deep.RegionHeld3
import Derived.Test.YtcamccoaoiobdaaGreatJTbAI
/- impl.BuildZone by its contract. -/
namespace Go.Proofs.YtcamccoaoiobdaaGreat
open Go.RowKit
set_option linter.unusedVariables false

theorem ibz_back {W : World} {b : Nat} {x0 x1 : Value} {c i : Int} {R : Ending → World → Prop} {a : Act} (h : Blk W b #[x0, x1] 26)
    (h4 : a.tmps[4]? = some (.pointer (some ⟨b, 0, none⟩))) (h5 : a.tmps[5]? = some (.int .i64 c)) (h6 : a.tmps[6]? = some (.int .i64 i)) (hd : a.defers = [])
    (hR : R (.returned (.tuple #[.agg #[x0, x1], .int .i64 c, .int .i64 i])) W) : bodyPost Tryz.prog Tryz.f7 R .ret a W := by
  refine bodyPost_ret ?_ hd hR
  have r := fun i => blk_cell h i
  simp [results, Tryz.results7, go_sem, Result.andThen, r, h4, h5, h6]

set_option maxRecDepth 100000 in
set_option maxHeartbeats 3200000 in
theorem implBuildZone_any (v : Value) (list : List Rr) (apex : ByteArray) (w : World) (h : CRow w v list.length 5 (rvVs list)) (ha : apex.size ≤ 1000000000) (ho : ∀ r ∈ list, r.own.size ≤ 1000000000 ∧ r.da.size ≤ 2000000) :
    Calls Tryz.prog 7 #[v, .string apex] w (BzPost list apex w) := by
  obtain ⟨la, lc, rfl⟩ : ∃ la lc, v = .slice la list.length lc := by
    obtain ⟨_, a, cap, e, _⟩ := h
    exact ⟨a, cap, e⟩
  have hltb : 0 < list.length → ∀ b, rowBlk (.slice la list.length lc) = some b → b < w.heap.size := by
    intro h0 b hb
    obtain ⟨_, a, cap, e, h1, h2, h3⟩ := h
    cases e
    obtain ⟨b', off, rfl, hc⟩ := h3 h0
    have hbb : b' = b := by simpa [rowBlk] using hb
    subst hbb
    have hn : 0 < (rvVs list).length := by rw [rvVs_len]; omega
    exact World.block_lt_of_cell? w _ (hc 0 _ (List.getElem?_eq_getElem hn))
  have kR := blk_new w #[.string ⟨#[]⟩, .slice none 0 0] 26
  have b0 := (Below.refl w.heap.size w).alloc (Nat.le_refl _) (.cells #[.string ⟨#[]⟩, .slice none 0 0] 26)
  have kB := blk_new (w.alloc (.cells #[.string ⟨#[]⟩, .slice none 0 0] 26)) #[.slice la list.length lc, .string apex, .slice none 0 0, .slice none 0 0, .pointer none, .slice none 0 0] 63
  have b1 := b0.alloc b0.size (.cells #[.slice la list.length lc, .string apex, .slice none 0 0, .slice none 0 0, .pointer none, .slice none 0 0] 63)
  have kR1 := blk_alloc kR (.cells #[.slice la list.length lc, .string apex, .slice none 0 0, .slice none 0 0, .pointer none, .slice none 0 0] 63)
  rw [World.size_alloc] at kB
  have hbd := build_any (w.heap.size + 1) la lc list apex _ kB (h.below b1) (fun h0 e => by have := hltb h0 _ e; omega) (fun h0 b hb => by have := hltb h0 b hb; simp; omega) (by unfold maxLen; omega) ho
  have HZ : Hid (∀ th ys aa ac labv rv os kv ks B W, P3 list apex (w.heap.size + 1) (.slice la list.length lc) th ys aa ac labv rv os kv ks B W → Calls Tryz.prog 24 #[.pointer (some ⟨w.heap.size + 1, 3, none⟩), .string apex] W fun e W' => ∃ v ps, e = .returned (.agg #[.string apex, v]) ∧ ps.map (·.1) = bldZ list ∧ ZOwn W' W.heap.size v ps ∧ Below W.heap.size W W') := by
    intro th ys aa ac labv rv os kv ks B W hP
    have hl5 := hP.hl
    have hol := hP.st.inv.len.1
    rw [List.length_map] at hol
    rw [zone_eq hP.st.inv hP.good.1 hP.mix]
    exact zone_any (w.heap.size + 1) 3 th rv os B apex W hP.st.tr (hP.st.inv.trs (by rw [List.length_map]; omega)) (by omega) hP.st.lab ((blk_cell hP.kb 4).trans rfl) ha
  have HB := Nm.hide b1
  clear h hltb kR b0 b1 kB ho
  unfold rsV at hbd
  obtain ⟨E, hE⟩ : ∃ E, E = bldE list apex := ⟨_, rfl⟩
  rw [← hE] at hbd
  have HE := Nm.hide hE
  clear hE
  obtain ⟨C, I⟩ := E
  simp only at hbd
  by_cases hC : C = 0
  · subst hC
    go_enter Tryz.func7, Tryz.ntmps7
    go_wp2_with fail
    refine hbd.mono ?_
    rintro e w2 ⟨rfl, hou, hp⟩
    obtain ⟨th, ys, aa, ac, labv, rv, os, kv, ks, B, hP⟩ := hp trivial
    have hz := HZ.out th ys aa ac labv rv os kv ks B w2 hP
    have kR2 := blk_outs kR1 hou (fun hm => by have := List.mem_singleton.1 hm; omega)
    have hw2 : w.heap.size + 2 ≤ w2.heap.size := by have := hou.size; simp at this; omega
    have HW2 := Nm.hide hw2
    have HOU := Nm.hide hou
    clear hbd hou hp hP HZ hw2 kR1
    go_wp2_with (
      go_at_call 24
      refine hz.mono ?_
      rintro e w3 ⟨zv, ps, rfl, hps, hzo, b3⟩
      obtain ⟨za, zc, rfl⟩ := own_sl hzo.outer
      have kR3 := blk_below kR2 b3
      have rR3 := fun i => blk_cell kR3 i
      have fR3 := fun i => blk_frozen kR3 i)
    have k5 := blk_set (blk_set kR3 0 (.string apex)) 1 (.slice za ps.length zc)
    simp only [List.setIfInBounds_toArray, List.set_cons_zero, List.set_cons_succ] at k5
    refine ibz_back k5 rfl rfl rfl rfl ⟨?_, fun _ => ⟨_, ps, rfl, hps, ?_⟩, fun h => absurd (by rw [← HE.out]) h⟩
    · have hb : Below w.heap.size w w3 := by
        have h1 := HB.out
        have h2 := HOU.out
        refine ⟨b3.os.trans (h2.os.trans h1.os), b3.tape.trans (h2.tape.trans h1.tape), b3.output.trans (h2.output.trans h1.output), by have := HW2.out; have := b3.size; omega, fun k hk => ?_⟩
        have hk2 : k < w2.heap.size := by have := HW2.out; omega
        rw [b3.block k hk2, h2.block k (by simp; omega) (fun hm => by have := List.mem_singleton.1 hm; omega)]
        exact h1.block k hk
      exact (hb.setCell (p := ⟨w.heap.size, 0, none⟩) (Nat.le_refl _) (.string apex)).setCell (p := ⟨w.heap.size, 1, none⟩) (Nat.le_refl _) (.slice za ps.length zc)
    · have hw := HW2.out
      exact ((hzo.far (i := 0) (y := .string apex) (g := w.heap.size) (by omega)).far (i := 1) (y := .slice za ps.length zc) (g := w.heap.size) (by omega)).base (by omega)
  · have n0 : (C != 0) = true := by simpa using hC
    have H0 := Nm.hide hC
    clear hC HZ
    go_enter Tryz.func7, Tryz.ntmps7
    go_wp2_with fail
    refine hbd.mono ?_
    rintro e w2 ⟨rfl, hou, hp⟩
    have kR2 := blk_outs kR1 hou (fun hm => by have := List.mem_singleton.1 hm; omega)
    have rR2 := fun i => blk_cell kR2 i
    have fR2 := fun i => blk_frozen kR2 i
    have hw2 : w.heap.size + 2 ≤ w2.heap.size := by have := hou.size; simp at this; omega
    have HW2 := Nm.hide hw2
    have HOU := Nm.hide hou
    clear hbd hou hp hw2 kR1
    go_wp2
    have k5 := blk_set (blk_set kR2 0 (.string ⟨#[]⟩)) 1 (.slice none 0 0)
    simp only [List.setIfInBounds_toArray, List.set_cons_zero, List.set_cons_succ] at k5
    refine ibz_back k5 rfl rfl rfl rfl ⟨?_, fun h => absurd (by rw [← HE.out] at h; exact h) H0.out, fun _ => by rw [← HE.out]; rfl⟩
    have hb : Below w.heap.size w w2 := by
      have h1 := HB.out
      have h2 := HOU.out
      refine ⟨h2.os.trans h1.os, h2.tape.trans h1.tape, h2.output.trans h1.output, by have := HW2.out; omega, fun k hk => ?_⟩
      rw [h2.block k (by simp; omega) (fun hm => by have := List.mem_singleton.1 hm; omega)]
      exact h1.block k hk
    exact (hb.setCell (p := ⟨w.heap.size, 0, none⟩) (Nat.le_refl _) (.string ⟨#[]⟩)).setCell (p := ⟨w.heap.size, 1, none⟩) (Nat.le_refl _) (.slice none 0 0)
end Go.Proofs.YtcamccoaoiobdaaGreat
/- laws.markText, laws.markStringS, laws.heldStringS by their contracts. -/
namespace Go.Proofs.YtcamccoaoiobdaaGreat
open Go.RowKit

def dgF : Nat → Nat → List UInt8
  | 0, _ => []
  | f + 1, k => if k = 0 then [] else dgF f (k / 10) ++ [UInt8.ofNat (48 + k % 10)]

def mkS (k : Nat) : ByteArray := if k = 0 then ⟨#[109, 48]⟩ else ⟨(109 :: dgF (k + 1) k).toArray⟩

def MkAt (k j : Nat) (t : ByteArray) : Prop := ∃ f, j < f ∧ dgF (k + 1) k = dgF f j ++ t.data.toList

theorem mk_start (k : Nat) : MkAt k k ⟨#[]⟩ := ⟨k + 1, by omega, by simp⟩
theorem mk_step {k j : Nat} {t : ByteArray} (h : MkAt k j t) (hj : 0 < j) : MkAt k (j / 10) (⟨#[UInt8.ofNat (48 + j % 10)]⟩ ++ t) := by
  obtain ⟨f, hf, e⟩ := h
  obtain ⟨g, rfl⟩ : ∃ g, f = g + 1 := ⟨f - 1, by omega⟩
  refine ⟨g, by omega, ?_⟩
  rw [e, dgF, if_neg (by omega)]
  simp
theorem mk_end {k j : Nat} {t : ByteArray} (h : MkAt k j t) (hj : j = 0) (hk : 0 < k) : (⟨#[109]⟩ : ByteArray) ++ t = mkS k := by
  obtain ⟨f, hf, e⟩ := h
  obtain ⟨g, rfl⟩ : ∃ g, f = g + 1 := ⟨f - 1, by omega⟩
  have z : dgF (g + 1) j = [] := by rw [dgF, if_pos hj]
  rw [z, List.nil_append] at e
  rw [mkS, if_neg (by omega), e]
  apply ba_ext
  simp
theorem mk_len {k j : Nat} {t : ByteArray} (h : MkAt k j t) : t.size ≤ k + 1 := by
  have hl : ∀ f k, (dgF f k).length ≤ f := by
    intro f
    induction f with
    | zero => intro k; simp [dgF]
    | succ f ih =>
      intro k
      rw [dgF]
      split
      · simp
      · have := ih (k / 10); simp; omega
  obtain ⟨f, hf, e⟩ := h
  have := congrArg List.length e
  rw [List.length_append, size_list] at this
  have := hl (k + 1) k
  omega

set_option maxRecDepth 100000 in
set_option maxHeartbeats 800000 in
theorem markText_any (k : Nat) (w : World) (hk : k ≤ 1000000000) :
    Calls Tryz.prog 27 #[.int .i64 (k : Int)] w fun e w' => e = .returned (.string (mkS k)) ∧ Below w.heap.size w w' := by
  by_cases h0 : k = 0
  · have HE : Hid (mkS k = ⟨#[109, 48]⟩) := by show _ = _; rw [mkS, if_pos h0]
    have h0' : (k : Int) ≤ 0 := by omega
    clear h0
    go_enter Tryz.func27, Tryz.ntmps27
    go_wp2
    go_ret
    rw [HE.out]
    exact ⟨rfl, Below.refl _ _⟩
  · have hpos : 0 < k := by omega
    have h0' : (0 : Int) < (k : Int) := by omega
    have hst := mk_start k
    go_enter Tryz.func27, Tryz.ntmps27
    go_wp2
    go_loopw [0, 3] (fun i v wr => ∃ (j : Nat) (t : ByteArray), i = .int .i64 (j : Int) ∧ j ≤ k ∧ v = .string t ∧ MkAt k j t ∧ Below w.heap.size w wr)
      (fun i _ _ => (intOf i).toNat)
    case atStart => exact ⟨k, _, rfl, Nat.le_refl _, rfl, hst, Below.refl _ _⟩
    case round =>
      obtain ⟨j, t, rfl, hjk, rfl, hat, hbel⟩ := hrel
      have hsz := hbel.size
      have hts := mk_len hat
      have hone : (ByteArray.mk #[109]).size = 1 := rfl
      clear hst
      by_cases hj : 0 < j
      · have HN := Nm.hide (mk_step hat hj)
        have hj' : (0 : Int) < (j : Int) := by omega
        have hcv := fun n => conv_one n wr
        have hn1 : ∀ c, (ByteArray.mk #[c]).size = 1 := fun _ => rfl
        have hmod : (48 + (j : Int) % 10) % 256 = 48 + (j : Int) % 10 := by omega
        have htn : (48 + (j : Int) % 10).toNat = 48 + j % 10 := by omega
        clear hat
        go_wp2
        go_roundw
        case rel => exact ⟨j / 10, _, by go_num, by omega, rfl, by simpa using HN.out, hbel.alloc hsz _⟩
        case measure => simp [intOf]; omega
      · have HE := Nm.hide (mk_end hat (by omega) hpos)
        have hj' : (j : Int) ≤ 0 := by omega
        clear hat
        go_wp2
        go_ret
        rw [← HE.out]
        exact ⟨rfl, hbel⟩
end Go.Proofs.YtcamccoaoiobdaaGreat
/- laws.markStringS, markSetS, markZone: what they leave as it was. -/
namespace Go.Proofs.YtcamccoaoiobdaaGreat
open Go.RowKit
set_option linter.unusedVariables false

/-- Only blocks from B up to C are written, and they keep their shape; those of another type than T stay. -/
structure Mk (B C : Nat) (T : TypeId) (w w' : World) : Prop where
  os : w'.os = w.os
  tape : w'.tape = w.tape
  output : w'.output = w.output
  size : w.heap.size ≤ w'.heap.size
  block : ∀ k, k < w.heap.size → (k < B ∨ C ≤ k) → w'.heap[k]? = w.heap[k]?
  shape : ∀ (g : Nat) (cur : Array Value) (e : TypeId), w.heap[g]? = some (.cells cur e (0, 0)) → ∃ cur' : Array Value, w'.heap[g]? = some (.cells cur' e (0, 0)) ∧ cur'.size = cur.size
  other : ∀ (g : Nat) (cur : Array Value) (e : TypeId), w.heap[g]? = some (.cells cur e (0, 0)) → e ≠ T → w'.heap[g]? = some (.cells cur e (0, 0))

theorem Mk.refl (B C T : Nat) (w : World) : Mk B C T w w := ⟨rfl, rfl, rfl, Nat.le_refl _, fun _ _ _ => rfl, fun _ cur _ h => ⟨cur, h, rfl⟩, fun _ _ _ h _ => h⟩
theorem heap_lt {w : World} {g : Nat} {x : Obj} (h : w.heap[g]? = some x) : g < w.heap.size := (Array.getElem?_eq_some_iff.1 h).1
theorem Mk.below {B C T : Nat} {w w1 w2 : World} (h : Mk B C T w w1) (hb : Below w1.heap.size w1 w2) : Mk B C T w w2 := by
  refine ⟨hb.os.trans h.os, hb.tape.trans h.tape, hb.output.trans h.output, Nat.le_trans h.size hb.size, fun k hk hr => (hb.block k (Nat.lt_of_lt_of_le hk h.size)).trans (h.block k hk hr), fun g cur e hg => ?_, fun g cur e hg hne => ?_⟩
  · obtain ⟨cur', h1, h2⟩ := h.shape g cur e hg
    exact ⟨cur', (hb.block g (heap_lt h1)).trans h1, h2⟩
  · have h1 := h.other g cur e hg hne
    exact (hb.block g (heap_lt h1)).trans h1
theorem Mk.set {B C T : Nat} {w w1 : World} {g i : Nat} {cur : Array Value} (h : Mk B C T w w1) (hB : B ≤ g) (hC : g < C) (hg : w1.heap[g]? = some (.cells cur T (0, 0))) (y : Value) : Mk B C T w (w1.setCell ⟨g, i, none⟩ y) := by
  refine ⟨h.os, h.tape, h.output, by simpa using h.size, fun k hk hr => ?_, fun g' cur' e hg' => ?_, fun g' cur' e hg' hne => ?_⟩
  · rw [heap_setCell_other w1 ⟨g, i, none⟩ k _ (by simp; omega)]
    exact h.block k hk hr
  · obtain ⟨c1, h1, h2⟩ := h.shape g' cur' e hg'
    by_cases hgg : g' = g
    · subst hgg
      rw [h1] at hg
      simp only [Option.some.injEq, Obj.cells.injEq] at hg
      obtain ⟨rfl, rfl, _⟩ := hg
      exact ⟨_, heap_setCell_same w1 g' i _ _ y h1, by simpa using h2⟩
    · exact ⟨c1, by rw [heap_setCell_other w1 ⟨g, i, none⟩ g' _ (by simpa using hgg)]; exact h1, h2⟩
  · have h1 := h.other g' cur' e hg' hne
    have hgg : g' ≠ g := by
      intro e1
      subst e1
      rw [h1] at hg
      simp only [Option.some.injEq, Obj.cells.injEq] at hg
      exact hne hg.2.1
    rw [heap_setCell_other w1 ⟨g, i, none⟩ g' _ (by simpa using hgg)]; exact h1

/-- A row that may be written, in a block from B up to C. -/
def WR (w : World) (B C : Nat) (e s : Nat) (v : Value) (n : Nat) : Prop := ∃ a cap, v = .slice a n cap ∧ n ≤ cap ∧ (0 < n → ∃ (g : Nat) (cur : Array Value), a = some ⟨g, 0, none⟩ ∧ B ≤ g ∧ g < C ∧ w.heap[g]? = some (.cells cur e (0, 0)) ∧ n * s ≤ cur.size)
theorem WR.of_owns {w : World} {B e s n : Nat} {v : Value} {xs : List Value} (h : w.ownsRow B e s v n xs) : WR w B w.heap.size e s v n := by
  rcases h.2 with ⟨rfl, rfl⟩ | ⟨g, cap, cur, rfl, hb, hg, hn, hm, hs, ht⟩
  · exact ⟨none, 0, rfl, Nat.le_refl _, fun h => by omega⟩
  · exact ⟨_, cap, rfl, hn, fun _ => ⟨g, cur, rfl, hb, heap_lt hg, hg, by rw [hs]; exact Nat.mul_le_mul_right _ hn⟩⟩
theorem WR.of_ownsC {w : World} {B C e s n : Nat} {v : Value} {xs : List Value} (h : w.ownsRow B e s v n xs) (hC : ∀ g, v.ownBlock = some g → g < C) : WR w B C e s v n := by
  rcases h.2 with ⟨rfl, rfl⟩ | ⟨g, cap, cur, rfl, hb, hg, hn, hm, hs, ht⟩
  · exact ⟨none, 0, rfl, Nat.le_refl _, fun h => by omega⟩
  · exact ⟨_, cap, rfl, hn, fun _ => ⟨g, cur, rfl, hb, hC g rfl, hg, by rw [hs]; exact Nat.mul_le_mul_right _ hn⟩⟩
theorem WR.shape {w w' : World} {B C e s n : Nat} {v : Value} (h : WR w B C e s v n) (hs : ∀ (g : Nat) (cur : Array Value) (e : TypeId), w.heap[g]? = some (.cells cur e (0, 0)) → ∃ cur' : Array Value, w'.heap[g]? = some (.cells cur' e (0, 0)) ∧ cur'.size = cur.size) : WR w' B C e s v n := by
  obtain ⟨a, cap, rfl, hn, hr⟩ := h
  refine ⟨a, cap, rfl, hn, fun hp => ?_⟩
  obtain ⟨g, cur, rfl, hB, hC, hg, hz⟩ := hr hp
  obtain ⟨cur', h1, h2⟩ := hs g cur e hg
  exact ⟨g, cur', rfl, hB, hC, h1, by omega⟩

set_option maxRecDepth 100000 in
set_option maxHeartbeats 800000 in
theorem markStringS_mk (v : Value) (n B C k : Nat) (w : World) (h : WR w B C 9 1 v n) (hn : n ≤ 10000000) (hk : k ≤ 100000000) :
    Calls Tryz.prog 56 #[v, .int .i64 (k : Int)] w fun e w' => e = .returned (.int .i64 ((k + n : Nat) : Int)) ∧ Mk B C 9 w w' := by
  obtain ⟨a, cap, rfl, hcap, hr⟩ := h
  have hmt := fun (j : Nat) (hj : j ≤ 1000000000) W => markText_any j W hj
  go_enter Tryz.func56, Tryz.ntmps56
  go_wp2
  go_loopw [1, 5] (fun t i wr => ∃ j : Nat, j ≤ n ∧ i = .int .i64 (j : Int) ∧ t = .int .i64 ((k : Int) + (j : Int)) ∧ Mk B C 9 w wr) (fun _ i _ => n - (intOf i).toNat)
  case atStart => exact ⟨0, Nat.zero_le _, rfl, by simp, Mk.refl _ _ _ _⟩
  case round =>
    obtain ⟨j, hj, rfl, rfl, hm⟩ := hrel
    by_cases hlt : j < n
    · obtain ⟨g, cur, rfl, hB, hC, hg, hz⟩ := hr (by omega)
      obtain ⟨cur', hg', hz'⟩ := hm.shape g cur _ hg
      have hone := hmt (k + j) (by omega) wr
      rw [show ((k + j : Nat) : Int) = (k : Int) + (j : Int) by omega] at hone
      have i1 : (0 : Int) ≤ (j : Int) := by omega
      have i2 : (j : Int) < (n : Int) := by omega
      have hcl : j < cur'.size := by omega
      clear hmt hr
      go_wp2_with (go_at_call 27; refine hone.mono ?_; rintro e w1 ⟨rfl, hb1⟩; have hg1 := (hb1.block g (heap_lt hg')).trans hg'; have hc1 : w1.cell? ⟨g, j, none⟩ = some cur'[j] := (cell_of_row _ _ _ _ _ _ hg1).trans (Array.getElem?_eq_getElem hcl); have hf1 := frozen_of_row w1 g j _ _ hg1)
      go_roundw
      case rel => exact ⟨j + 1, by omega, by go_num, by congr 1 <;> omega, (hm.below hb1).set hB hC hg1 _⟩
      case measure => simp [intOf]; omega
    · have hjn : j = n := by omega
      subst hjn
      clear hr hmt
      have i2 : (j : Int) ≤ (j : Int) := by omega
      go_wp2
      go_ret
      exact ⟨by rw [show ((k + j : Nat) : Int) = (k : Int) + (j : Int) by omega]; rfl, hm⟩

/-- Only blocks from B up to C are written, and all keep their shape. -/
structure Mj (B C : Nat) (w w' : World) : Prop where
  os : w'.os = w.os
  tape : w'.tape = w.tape
  output : w'.output = w.output
  size : w.heap.size ≤ w'.heap.size
  block : ∀ k, k < w.heap.size → (k < B ∨ C ≤ k) → w'.heap[k]? = w.heap[k]?
  shape : ∀ (g : Nat) (cur : Array Value) (e : TypeId), w.heap[g]? = some (.cells cur e (0, 0)) → ∃ cur' : Array Value, w'.heap[g]? = some (.cells cur' e (0, 0)) ∧ cur'.size = cur.size
theorem Mj.refl (B C : Nat) (w : World) : Mj B C w w := ⟨rfl, rfl, rfl, Nat.le_refl _, fun _ _ _ => rfl, fun _ cur _ h => ⟨cur, h, rfl⟩⟩
theorem Mj.step {B C T : Nat} {w w1 w2 : World} (h : Mj B C w w1) (h2 : Mk B C T w1 w2) : Mj B C w w2 := by
  refine ⟨h2.os.trans h.os, h2.tape.trans h.tape, h2.output.trans h.output, Nat.le_trans h.size h2.size, fun k hk hr => (h2.block k (Nat.lt_of_lt_of_le hk h.size) hr).trans (h.block k hk hr), fun g cur e hg => ?_⟩
  obtain ⟨c1, h3, h4⟩ := h.shape g cur e hg
  obtain ⟨c2, h5, h6⟩ := h2.shape g c1 e h3
  exact ⟨c2, h5, by omega⟩
theorem Mj.down {B C : Nat} {w w' : World} (h : Mj B C w w') {D : Nat} (h1 : D ≤ B) (h2 : D ≤ w.heap.size) : Below D w w' := ⟨h.os, h.tape, h.output, h.size, fun k hk => h.block k (by omega) (.inl (by omega))⟩

def zl : List Zp → Nat
  | [] => 0
  | x :: xs => x.1.da.length + 3 + zl xs
theorem zl_step : ∀ (xs : List Zp) (k : Nat) (x : Zp), xs[k]? = some x → zl (xs.take (k + 1)) = zl (xs.take k) + (x.1.da.length + 3) := by
  intro xs
  induction xs with
  | nil => intro k x h; simp at h
  | cons y xs ih =>
    intro k x h
    cases k with
    | zero => simp at h; subst h; simp [zl]
    | succ k =>
      simp at h
      have := ih k x h
      simp only [List.take_succ_cons, zl]; omega
theorem zl_take_le : ∀ (xs : List Zp) (k : Nat), zl (xs.take k) ≤ zl xs := by
  intro xs
  induction xs with
  | nil => intro k; simp [zl]
  | cons y xs ih =>
    intro k
    cases k with
    | zero => simp [zl]
    | succ k => have := ih k; simp only [List.take_succ_cons, zl]; omega

theorem zl_len (xs : List Zp) : xs.length ≤ zl xs := by
  induction xs with
  | nil => simp [zl]
  | cons y xs ih => simp only [zl, List.length_cons]; omega

/-- The sets' row: the slices of data stand in their places. -/
def SV (w : World) (g : Nat) (qs : List Zp) (cur : Array Value) : Prop := Blk w g cur 54 ∧ qs.length * 4 ≤ cur.size ∧ ∀ (j : Nat) (q : Zp), qs[j]? = some q → cur[j * 4 + 3]? = some q.2
theorem SV.set {w : World} {g i : Nat} {qs : List Zp} {cur : Array Value} (h : SV w g qs cur) (y : Value) (hc : i % 4 ≠ 3) : SV (w.setCell ⟨g, i, none⟩ y) g qs (cur.setIfInBounds i y) := by
  refine ⟨blk_set h.1 _ _, by simpa using h.2.1, fun j q hj => ?_⟩
  rw [Array.getElem?_setIfInBounds_ne (by omega)]
  exact h.2.2 j q hj
theorem SV.below {w W : World} {g : Nat} {qs : List Zp} {cur : Array Value} (h : SV w g qs cur) (hb : Below w.heap.size w W) : SV W g qs cur := ⟨blk_below h.1 hb, h.2⟩
theorem SV.mk {w W : World} {B C g : Nat} {qs : List Zp} {cur : Array Value} (h : SV w g qs cur) (hb : Mk B C 9 w W) : SV W g qs cur := ⟨hb.other g cur _ h.1 (by decide), h.2⟩

set_option maxRecDepth 100000 in
set_option maxHeartbeats 1600000 in
theorem markSetS_mk (v : Value) (qs : List Zp) (B C k : Nat) (w : World) (h : OZ w B v qs) (hC : ∀ g, v.ownBlock = some g → g < C) (hCD : ∀ q ∈ qs, ∀ g, q.2.ownBlock = some g → g < C) (hn : zl qs ≤ 10000000) (hk : k ≤ 1000000) :
    Calls Tryz.prog 28 #[v, .int .i64 (k : Int)] w fun e w' => e = .returned (.int .i64 ((k + zl qs : Nat) : Int)) ∧ Mj B C w w' := by
  have hW0 := WR.of_ownsC h.1 hC
  have hql := zl_len qs
  have hD0 : ∀ q ∈ qs, WR w B C 9 1 q.2 q.1.da.length := fun q hq => WR.of_ownsC (h.2 q hq) (hCD q hq)
  have hSV0 : 0 < qs.length → ∃ g cap cur, v = .slice (some ⟨g, 0, none⟩) qs.length cap ∧ B ≤ g ∧ g < C ∧ SV w g qs cur := by
    intro hp
    rcases h.1.2 with ⟨_, h0⟩ | ⟨g, cap, cur, rfl, hb, hg, hn, hm, hs, ht⟩
    · omega
    · refine ⟨g, cap, cur, rfl, hb, hC g rfl, hg, by rw [hs]; exact Nat.mul_le_mul_right _ hn, fun j q hj => ?_⟩
      have hjl : j < qs.length := (List.getElem?_eq_some_iff.1 hj).1
      have e := (zpVs_at qs j 3 q hj (by decide))
      rw [← ht, List.getElem?_take_of_lt (by omega)] at e
      have e2 : cur.toList[j * 4 + 3]? = some q.2 := e
      simpa using e2
  have hmt := fun (j : Nat) (hj : j ≤ 1000000000) W => markText_any j W hj
  have hms := fun (q : Zp) W (hWr : WR W B C 9 1 q.2 q.1.da.length) (j : Nat) (hj : j ≤ 100000000) (hl : q.1.da.length ≤ 10000000) => markStringS_mk q.2 q.1.da.length B C j W hWr hl hj
  obtain ⟨a, cap, rfl⟩ := own_sl h.1
  clear h hW0 hC hCD
  go_enter Tryz.func28, Tryz.ntmps28
  go_wp2
  go_loopw [1, 5] (fun t i wr => ∃ j : Nat, j ≤ qs.length ∧ i = .int .i64 (j : Int) ∧ t = .int .i64 ((k : Int) + (zl (qs.take j) : Int)) ∧ Mj B C w wr ∧ Hid (∀ g, a = some ⟨g, 0, none⟩ → 0 < qs.length → ∃ cur, SV wr g qs cur)) (fun _ i _ => qs.length - (intOf i).toNat)
  case atStart =>
    refine ⟨0, Nat.zero_le _, rfl, by simp [zl], Mj.refl _ _ _, ?_⟩
    intro g hg hp
    obtain ⟨g', cap', cur, e1, _, _, hsv⟩ := hSV0 hp
    subst hg
    simp only [Value.slice.injEq, Option.some.injEq, Addr.mk.injEq] at e1
    obtain ⟨⟨rfl, _⟩, _⟩ := e1
    exact ⟨cur, hsv⟩
  case round =>
    obtain ⟨j, hj, rfl, rfl, hm, HV⟩ := hrel
    by_cases hlt : j < qs.length
    · obtain ⟨q, hq⟩ : ∃ q, qs[j]? = some q := ⟨_, List.getElem?_eq_getElem hlt⟩
      obtain ⟨g, cap', cur0, e1, hBg, hgC, _⟩ := hSV0 (by omega)
      simp only [Value.slice.injEq] at e1
      obtain ⟨rfl, _, rfl⟩ := e1
      obtain ⟨cur, hsv⟩ := HV.out g rfl (by omega)
      have hst := zl_step qs j q hq
      have hle := zl_take_le qs (j + 1)
      have hone := hmt (k + zl (qs.take j)) (by omega) wr
      rw [show ((k + zl (qs.take j) : Nat) : Int) = (k : Int) + (zl (qs.take j) : Int) by omega] at hone
      have hms1 := fun W hWr => hms q W hWr (k + zl (qs.take j) + 3) (by omega) (by omega)
      rw [show ((k + zl (qs.take j) + 3 : Nat) : Int) = (k : Int) + (zl (qs.take j) : Int) + 1 + 1 + 1 by omega] at hms1
      have hwr := (hD0 q (List.mem_of_getElem? hq)).shape hm.shape
      have hdv := hsv.2.2 j q hq
      have i1 : (0 : Int) ≤ (j : Int) := by omega
      have i2 : (j : Int) < (qs.length : Int) := by omega
      have hfin : ((k + zl (qs.take j) + 3 + q.1.da.length : Nat) : Int) = (k : Int) + (zl (qs.take (j + 1)) : Int) := by omega
      have hcs : j * 4 + 3 < cur.size := by have := hsv.2.1; omega
      obtain ⟨qa, qc, hqv⟩ : ∃ qa qc, q.2 = .slice qa q.1.da.length qc := by
        obtain ⟨qa, qc, e, _⟩ := hwr
        exact ⟨qa, qc, e⟩
      clear hmt hms hSV0 HV hq hD0
      generalize zl (qs.take j) = z0 at *
      generalize hz1 : zl (qs.take (j + 1)) = z1 at *
      obtain ⟨⟨o, ty, tt, da⟩, dv⟩ := q
      simp only at hqv hms1 hwr hdv hfin
      subst hqv
      go_wp2_with (first | (go_at_call 27; refine hone.mono ?_; rintro e w1 ⟨rfl, hb1⟩; have hs1 := hsv.below hb1; have f1 := blk_frozen hs1.1; have c0 : w1.cell? ⟨g, j * 4, none⟩ = some cur[j * 4] := (blk_cell hs1.1 _).trans (Array.getElem?_eq_getElem (by omega)); have c1 : w1.cell? ⟨g, j * 4 + 1, none⟩ = some cur[j * 4 + 1] := (blk_cell hs1.1 _).trans (Array.getElem?_eq_getElem (by omega)); have c2 : w1.cell? ⟨g, j * 4 + 2, none⟩ = some cur[j * 4 + 2] := (blk_cell hs1.1 _).trans (Array.getElem?_eq_getElem (by omega)); have c3 : w1.cell? ⟨g, j * 4 + 3, none⟩ = some (.slice qa da.length qc) := (blk_cell hs1.1 _).trans hdv) | (go_at_call 56; refine (hms1 _ (hwr.shape (((((Mk.refl B C 54 wr).below hb1).set hBg hgC hs1.1 _).set hBg hgC (hs1.set _ (by omega)).1 _).set hBg hgC ((hs1.set _ (by omega)).set _ (by omega)).1 _).shape)).mono ?_; rintro e w5 ⟨rfl, hk5⟩))
      have hs5 := (((hs1.set (.string (mkS (k + z0))) (i := j * 4) (by omega)).set (.int .i64 ((k : Int) + (z0 : Int) + 1)) (i := j * 4 + 1) (by omega)).set (.int .i64 ((k : Int) + (z0 : Int) + 1 + 1)) (i := j * 4 + 2) (by omega)).mk hk5
      have hm5 := (hm.step (((((Mk.refl B C 54 wr).below hb1).set hBg hgC hs1.1 _).set hBg hgC (hs1.set _ (by omega)).1 _).set hBg hgC ((hs1.set _ (by omega)).set _ (by omega)).1 _)).step hk5
      go_roundw
      case rel =>
        refine ⟨j + 1, by omega, by go_num, ?_, hm5, ?_⟩
        · rw [hz1]; congr 1 <;> omega
        · intro g' hg' hp
          cases hg'
          exact ⟨_, hs5⟩
      case measure => simp [intOf]; omega
    · have hjn : j = qs.length := by omega
      subst hjn
      clear hmt hms hSV0 HV hD0
      have i2 : (qs.length : Int) ≤ (qs.length : Int) := by omega
      rw [List.take_length]
      go_wp2
      go_ret
      exact ⟨by rw [show ((k + zl qs : Nat) : Int) = (k : Int) + (zl qs : Int) by omega]; rfl, hm⟩

set_option maxRecDepth 100000 in
set_option maxHeartbeats 800000 in
theorem markZone_mk (o : ByteArray) (v : Value) (qs : List Zp) (B C k : Nat) (w : World) (h : OZ w B v qs) (hC : ∀ g, v.ownBlock = some g → g < C) (hCD : ∀ q ∈ qs, ∀ g, q.2.ownBlock = some g → g < C) (hn : zl qs ≤ 10000000) (hk : k ≤ 1000000) :
    Calls Tryz.prog 11 #[.agg #[.string o, v], .int .i64 (k : Int)] w fun e w' => e = .returned (.int .i64 ((k + zl qs : Nat) : Int)) ∧ Mj B C w w' := by
  have hB := (Below.refl w.heap.size w).alloc (Nat.le_refl _) (.cells #[.string o, v] 26)
  have hone := markSetS_mk v qs B C k _ (h.below hB) hC hCD hn hk
  obtain ⟨a, cap, rfl⟩ := own_sl h.1
  have hsz : (w.alloc (.cells #[.string o, .slice a qs.length cap] 26)).heap.size = w.heap.size + 1 := by simp
  clear h hC hCD
  go_enter Tryz.func11, Tryz.ntmps11
  go_wp2_with (go_at_call 28; refine hone.mono ?_; rintro e w1 ⟨rfl, hm⟩)
  go_ret
  refine ⟨rfl, hm.os, hm.tape, hm.output, by have := hm.size; omega, fun k hk hr => (hm.block k (by omega) hr).trans (hB.block k hk), fun g cur e hg => ?_⟩
  exact hm.shape g cur e ((hB.block g (heap_lt hg)).trans hg)

theorem own_mj {w w' : World} {B C B' e s n : Nat} {v : Value} {xs : List Value} (h : w.ownsRow B' e s v n xs) (hr : ∀ g, v.ownBlock = some g → g < B ∨ C ≤ g) (hm : Mj B C w w') : w'.ownsRow B' e s v n xs := by
  refine ⟨h.1, ?_⟩
  rcases h.2 with h0 | ⟨g, cap, cur, rfl, hb, hg, r⟩
  · exact .inl h0
  · exact .inr ⟨g, cap, cur, rfl, hb, (hm.block g (heap_lt hg) (hr g rfl)).trans hg, r⟩
theorem OZ.lt {w : World} {B : Nat} {v : Value} {qs : List Zp} (h : OZ w B v qs) : (∀ g, v.ownBlock = some g → g < w.heap.size) ∧ ∀ q ∈ qs, ∀ g, q.2.ownBlock = some g → g < w.heap.size :=
  ⟨fun g hg => (h.1.lt g hg).2, fun q hq g hg => ((h.2 q hq).lt g hg).2⟩

theorem zsum_same {ps qs : List Zp} (h : qs.map (·.1) = ps.map (·.1)) : zsum qs = zsum ps := by
  have e : ∀ xs : List Zp, zsum xs = ((xs.map (·.1)).map zs1).sum := by
    intro xs
    induction xs with
    | nil => rfl
    | cons y xs ih => simp only [zsum, List.map_cons, List.sum_cons, ih]
  rw [e, e, h]
theorem zl_le (ps : List Zp) : zl ps ≤ zsum ps + 3 * ps.length := by
  induction ps with
  | nil => simp [zl]
  | cons y ps ih => simp only [zl, zsum, zs1, List.length_cons]; omega
end Go.Proofs.YtcamccoaoiobdaaGreat
