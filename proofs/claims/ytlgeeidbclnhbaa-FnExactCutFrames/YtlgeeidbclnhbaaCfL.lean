/- laws.eqByteSS, markByteSS, heldByteSS by their contracts. -/
import Derived.Test.YtlgeeidbclnhbaaCfK
import Derived.Deep.RegionWith
namespace Go.Proofs.Ytlgeeidbclnhbaa
open Go.RowKit
set_option linter.unusedVariables false

theorem bs_cell {w : World} {B N : Nat} {v : Value} {us : List Value} {ls : List (List Value)} (h : BsOwn w B N v us ls) {i : Nat} (hi : i < us.length) : ∃ g cap u l, v = .slice (some ⟨g, 0, none⟩) us.length cap ∧ w.cell? ⟨g, i, none⟩ = some u ∧ us[i]? = some u ∧ ls[i]? = some l ∧ w.ownsRow B 5 1 u l.length l := by
  obtain ⟨u, hu⟩ : ∃ u, us[i]? = some u := ⟨_, List.getElem?_eq_getElem hi⟩
  obtain ⟨l, hl⟩ : ∃ l, ls[i]? = some l := ⟨_, List.getElem?_eq_getElem (by rw [← h.len]; exact hi)⟩
  rcases h.outer.2 with ⟨_, h0⟩ | ⟨g, cap, cur, e, _⟩
  · omega
  · refine ⟨g, cap, u, l, e, ?_, hu, hl, h.inner i u l hu hl⟩
    have ho := h.outer
    rw [e] at ho
    rw [ho.cellAt i (by omega)]
    exact hu

theorem bs_map {fs : List (List UInt8)} {i : Nat} {l : List Value} (h : (fs.map Nm.bys)[i]? = some l) : ∃ f, fs[i]? = some f ∧ l = Nm.bys f := by
  rw [List.getElem?_map] at h
  cases hf : fs[i]? with
  | none => rw [hf] at h; cases h
  | some f => rw [hf] at h; simp at h; exact ⟨f, rfl, h.symm⟩

/-- Rows of bytes that are read. -/
structure BsR (w : World) (v : Value) (us : List Value) (fs : List (List UInt8)) : Prop where
  outer : CRow w v us.length 1 us
  len : us.length = fs.length
  inner : ∀ (i : Nat) (u : Value) (f : List UInt8), us[i]? = some u → fs[i]? = some f → BySl w u f

theorem BsR.below {w w' : World} {v : Value} {us : List Value} {fs : List (List UInt8)} (h : BsR w v us fs) (hb : Below w.heap.size w w') : BsR w' v us fs :=
  ⟨h.outer.below hb, h.len, fun i u f h1 h2 => (h.inner i u f h1 h2).below hb⟩

theorem BsOwn.read {w : World} {B N : Nat} {v : Value} {us : List Value} {fs : List (List UInt8)} (h : BsOwn w B N v us (fs.map Nm.bys)) : BsR w v us fs := by
  refine ⟨CRow.of_owns h.outer, by have := h.len; simpa using this, fun i u f h1 h2 => ?_⟩
  have := h.inner i u (Nm.bys f) h1 (by rw [List.getElem?_map, h2]; rfl)
  rw [Nm.bys_length] at this
  exact CRow.of_owns this

theorem bsr_cell {w : World} {v : Value} {us : List Value} {fs : List (List UInt8)} (h : BsR w v us fs) {i : Nat} (hi : i < us.length) : ∃ g off cap u f, v = .slice (some ⟨g, off, none⟩) us.length cap ∧ w.cell? ⟨g, off + i, none⟩ = some u ∧ fs[i]? = some f ∧ BySl w u f := by
  obtain ⟨u, hu⟩ : ∃ u, us[i]? = some u := ⟨_, List.getElem?_eq_getElem hi⟩
  obtain ⟨f, hf⟩ : ∃ f, fs[i]? = some f := ⟨_, List.getElem?_eq_getElem (by rw [← h.len]; exact hi)⟩
  obtain ⟨_, a, cap, e, _, _, hc⟩ := h.outer
  obtain ⟨b, off, rfl, hcell⟩ := hc (by omega)
  exact ⟨b, off, cap, u, f, e, hcell i u hu, hf, h.inner i u f hu hf⟩

set_option maxRecDepth 100000 in
set_option maxHeartbeats 1600000 in
theorem eqBs_any (v v' : Value) (us us' : List Value) (fs : List (List UInt8)) (w : World) (h : BsR w v us fs) (h' : BsR w v' us' fs) (hl : fs.length ≤ 1000000) :
    Calls Try.prog 7 #[v, v'] w fun e w' => e = .returned (.bool true) ∧ Below w.heap.size w w' := by
  have l1 : us.length = fs.length := h.len
  have l2 : us'.length = fs.length := h'.len
  obtain ⟨a, cap, e1⟩ : ∃ a cap, v = .slice a us.length cap := by obtain ⟨_, a, c, e, _⟩ := h.outer; exact ⟨a, c, e⟩
  obtain ⟨a', cap', e2⟩ : ∃ a cap, v' = .slice a us'.length cap := by obtain ⟨_, a, c, e, _⟩ := h'.outer; exact ⟨a, c, e⟩
  rw [l1] at e1
  rw [l2] at e2
  subst e1
  subst e2
  have hne : ((fs.length : Int) != (fs.length : Int)) = false := by simp
  have HL1 := Nm.hide l1
  have HL2 := Nm.hide l2
  clear l1 l2
  go_enter Try.func7, Try.ntmps7
  go_wp2
  go_loopw [5] (fun i wr => ∃ k : Nat, k ≤ fs.length ∧ i = .int .i64 k ∧ Below w.heap.size w wr) (fun i _ => fs.length - (intOf i).toNat)
  case atStart => exact ⟨0, Nat.zero_le _, rfl, Below.refl _ _⟩
  case round =>
    obtain ⟨k, hk, rfl, hbel⟩ := hrel
    by_cases hlt : k < fs.length
    · obtain ⟨g, o1, c1, u, f, ea, hc, hf, ho⟩ := bsr_cell h (i := k) (by rw [HL1.out]; exact hlt)
      obtain ⟨g', o1', c1', u', f', ea', hc', hf', ho'⟩ := bsr_cell h' (i := k) (by rw [HL2.out]; exact hlt)
      obtain rfl : f = f' := by rw [hf] at hf'; exact Option.some.inj hf'
      simp only [Value.slice.injEq] at ea ea'
      obtain ⟨rfl, hz9, rfl⟩ := ea
      clear hz9
      obtain ⟨rfl, hz9, rfl⟩ := ea'
      clear hz9
      have hcx := (hbel.cell (World.block_lt_of_cell? w _ hc)).trans hc
      have hcx' := (hbel.cell (World.block_lt_of_cell? w _ hc')).trans hc'
      have HO := Nm.hide ho
      have HO' := Nm.hide ho'
      have heq := fun (W : World) (hb : Below w.heap.size w W) => eqBy_any u u' f W (HO.out.below hb) (HO'.out.below hb)
      have i1 : (k : Int) < (fs.length : Int) := by omega
      obtain ⟨ua, uc, rfl⟩ : ∃ a c, u = .slice a f.length c := by obtain ⟨_, a, c, e, _⟩ := ho; exact ⟨a, c, e⟩
      obtain ⟨ub, ud, rfl⟩ : ∃ a c, u' = .slice a f.length c := by obtain ⟨_, a, c, e, _⟩ := ho'; exact ⟨a, c, e⟩
      generalize f.length = fl at *
      clear h h' hc hc' hf hf' ho ho' HO HO'
      go_wp2
      go_region_with (go_at_call 8; refine (heq _ (by first | exact hbel.drew | exact Go.below_drewN hbel _)).mono ?_; rintro e w1 ⟨rfl, hb1⟩)
      all_goals
        go_wp2
        go_roundw
        case rel => exact ⟨k + 1, by omega, by go_num, Nm.below_two hbel.drew hb1⟩
        case measure => simp [intOf]; omega
    · obtain rfl : k = fs.length := by omega
      have i1 : (fs.length : Int) ≤ (fs.length : Int) := by omega
      go_wp2
      go_ret
      exact ⟨rfl, hbel⟩

/-- A row of rows that is marked from k on. -/
def bmS : Nat → List (List UInt8) → List (List Value)
  | _, [] => []
  | k, f :: fs => bmK k f.length :: bmS (k + f.length) fs

theorem bmS_len : ∀ (k : Nat) (fs : List (List UInt8)), (bmS k fs).length = fs.length
  | _, [] => rfl
  | k, f :: fs => by simp [bmS, bmS_len]

theorem bmS_get : ∀ (k : Nat) (fs : List (List UInt8)) (i : Nat) (f : List UInt8), fs[i]? = some f → (bmS k fs)[i]? = some (bmK (k + tot (fs.take i)) f.length)
  | _, [], i, f, h => by simp at h
  | k, g :: fs, 0, f, h => by
    simp at h
    subst h
    simp [bmS, tot]
  | k, g :: fs, i + 1, f, h => by
    simp only [List.getElem?_cons_succ] at h
    rw [bmS, List.getElem?_cons_succ, bmS_get _ fs i f h]
    simp [tot, Nat.add_assoc]

theorem tot_take {fs : List (List UInt8)} {i : Nat} {f : List UInt8} (h : fs[i]? = some f) : tot (fs.take (i + 1)) = tot (fs.take i) + f.length := by
  obtain ⟨hi, e⟩ := List.getElem?_eq_some_iff.1 h
  rw [List.take_succ_eq_append_getElem hi, e, tot_snoc]

theorem tot_le : ∀ (fs : List (List UInt8)) (i : Nat), tot (fs.take i) ≤ tot fs
  | [], i => by simp
  | f :: fs, 0 => by simp [tot]
  | f :: fs, i + 1 => by
    have := tot_le fs i
    simp [tot] at *
    omega

/-- Of the rows those ahead of i are marked. -/
def mixS (k : Nat) (fs : List (List UInt8)) (i : Nat) : List (List Value) := (bmS k fs).take i ++ (fs.map Nm.bys).drop i
theorem mixS_len (k : Nat) (fs : List (List UInt8)) (i : Nat) (hi : i ≤ fs.length) : (mixS k fs i).length = fs.length := by simp [mixS, bmS_len]; omega
theorem mixS_get {k : Nat} {fs : List (List UInt8)} {i j : Nat} {l : List Value} (hi : i ≤ fs.length) (h : (mixS k fs i)[j]? = some l) : ∃ f, fs[j]? = some f ∧ l = if j < i then bmK (k + tot (fs.take j)) f.length else Nm.bys f := by
  have hj : j < fs.length := by
    have := (List.getElem?_eq_some_iff.1 h).1
    rwa [mixS_len k fs i hi] at this
  obtain ⟨f, hf⟩ : ∃ f, fs[j]? = some f := ⟨_, List.getElem?_eq_getElem hj⟩
  refine ⟨f, hf, ?_⟩
  have hl : ((bmS k fs).take i).length = i := by simp [bmS_len]; omega
  by_cases hji : j < i
  · rw [mixS, List.getElem?_append_left (by omega), List.getElem?_take, if_pos hji, bmS_get k fs j f hf] at h
    rw [if_pos hji]
    exact (Option.some.inj h).symm
  · rw [mixS, List.getElem?_append_right (by omega), hl, List.getElem?_drop, show i + (j - i) = j by omega, List.getElem?_map, hf] at h
    rw [if_neg hji]
    exact (Option.some.inj h).symm
theorem mixS_at {k : Nat} {fs : List (List UInt8)} {i j : Nat} {f : List UInt8} (hi : i ≤ fs.length) (h : fs[j]? = some f) : (mixS k fs i)[j]? = some (if j < i then bmK (k + tot (fs.take j)) f.length else Nm.bys f) := by
  have hj := (List.getElem?_eq_some_iff.1 h).1
  obtain ⟨l, hl⟩ : ∃ l, (mixS k fs i)[j]? = some l := ⟨_, List.getElem?_eq_getElem (by rw [mixS_len k fs i hi]; exact hj)⟩
  obtain ⟨f', hf', e⟩ := mixS_get hi hl
  rw [h] at hf'
  obtain rfl := Option.some.inj hf'
  rw [hl, e]
theorem mixS_zero (k : Nat) (fs : List (List UInt8)) : mixS k fs 0 = fs.map Nm.bys := by simp [mixS]
theorem mixS_all (k : Nat) (fs : List (List UInt8)) : mixS k fs fs.length = bmS k fs := by
  rw [mixS, List.take_of_length_le (by rw [bmS_len]; omega), List.drop_of_length_le (by simp), List.append_nil]

set_option maxRecDepth 100000 in
set_option maxHeartbeats 1600000 in
theorem markBs_any (v : Value) (us : List Value) (fs : List (List UInt8)) (B N k : Nat) (w : World) (h : BsOwn w B N v us (fs.map Nm.bys)) (hl : fs.length ≤ 1000000) (ht : tot fs ≤ 1000000) (hk : k ≤ 1000000) (hB : B ≤ w.heap.size) :
    Calls Try.prog 10 #[v, .int .i64 (k : Int)] w fun e w' => e = .returned (.int .i64 ((k + tot fs : Nat) : Int)) ∧ BsOwn w' B N v us (bmS k fs) ∧ Below B w w' ∧ (∀ q, q < w.heap.size → (∀ (i : Nat) (u : Value), us[i]? = some u → u.ownBlock ≠ some q) → w'.heap[q]? = w.heap[q]?) := by
  have l1 : us.length = fs.length := by have := h.len; simpa using this
  obtain ⟨a, cap, e1⟩ := own_sl h.outer
  rw [l1] at e1
  subst e1
  rw [← mixS_zero k] at h
  have HL1 := Nm.hide l1
  clear l1
  go_enter Try.func10, Try.ntmps10
  go_wp2
  go_loopw [1, 5] (fun t i wr => ∃ j : Nat, j ≤ fs.length ∧ i = .int .i64 j ∧ t = .int .i64 ((k + tot (fs.take j) : Nat) : Int) ∧ BsOwn wr B N (.slice a fs.length cap) us (mixS k fs j) ∧ Below B w wr ∧ w.heap.size ≤ wr.heap.size ∧ (∀ q, q < w.heap.size → (∀ (i : Nat) (u : Value), us[i]? = some u → u.ownBlock ≠ some q) → wr.heap[q]? = w.heap[q]?)) (fun _ i _ => fs.length - (intOf i).toNat)
  case atStart => exact ⟨0, Nat.zero_le _, rfl, by simp [tot], h, Below.refl _ _, Nat.le_refl _, fun _ _ _ => rfl⟩
  case round =>
    obtain ⟨j, hj, rfl, rfl, ho, hbel, hsz, hst⟩ := hrel
    by_cases hlt : j < fs.length
    · obtain ⟨g, c1, u, l, ea, hc, hu, hy, hon⟩ := bs_cell ho (i := j) (by rw [HL1.out]; exact hlt)
      obtain ⟨f, hf, rfl⟩ := mixS_get hj hy
      rw [if_neg (Nat.lt_irrefl _), Nm.bys_length] at hon
      simp only [Value.slice.injEq] at ea
      obtain ⟨rfl, hz9, rfl⟩ := ea
      clear hz9
      have e3 := tot_take hf
      have e4 := tot_le fs j
      have e5 := tot_le fs (j + 1)
      have hmk := markByK_any u f.length B (k + tot (fs.take j)) _ wr hon (by omega) (by omega)
      have HN : ∀ w1, w1.ownsRow B 5 1 u f.length (bmK (k + tot (fs.take j)) f.length) → wr.grownBy w1 u.ownBlock → BsOwn w1 B N (.slice (some ⟨g, 0, none⟩) fs.length cap) us (mixS k fs (j + 1)) ∧ Below B w w1 ∧ w.heap.size ≤ w1.heap.size ∧ (∀ q, q < w.heap.size → (∀ (i : Nat) (u : Value), us[i]? = some u → u.ownBlock ≠ some q) → w1.heap[q]? = w.heap[q]?) := by
        intro w1 ho1 hg1
        refine ⟨⟨own_besideC ho.outer hg1 (own_kindsC ho.outer hon (by decide)), ho.otop, by rw [HL1.out, mixS_len k fs _ (by omega)], ?_, ho.itop, ho.apart⟩, ?_, ?_, ?_⟩
        · intro i x y hx hy2
          obtain ⟨f2, hf2, rfl⟩ := mixS_get (by omega) hy2
          by_cases hij : i = j
          · subst hij
            rw [hf] at hf2
            obtain rfl := Option.some.inj hf2
            rw [hu] at hx
            obtain rfl := Option.some.inj hx
            rw [if_pos (by omega), bmK_len]
            exact ho1
          · have h2 := ho.inner i x _ hx (mixS_at hj hf2)
            have e6 : (if i < j + 1 then bmK (k + tot (fs.take i)) f2.length else Nm.bys f2) = if i < j then bmK (k + tot (fs.take i)) f2.length else Nm.bys f2 := by
              by_cases hh : i < j
              · rw [if_pos hh, if_pos (by omega)]
              · rw [if_neg hh, if_neg (by omega)]
            rw [e6]
            exact own_besideC h2 hg1 (ho.apart j i u x hu hx (fun e => hij e.symm))
        · exact hbel.grown hg1 (by omega) (fun q hq => (ho.itop j u hu q hq).1)
        · have := hg1.size
          omega
        · intro q hq hne
          rw [← hst q hq hne]
          exact hg1.block q (by omega) (fun e => hne j u hu e.symm)
      have HN2 := Nm.hide HN
      have hus := own_sl hon
      have HJ : Hid (j + 1 ≤ fs.length ∧ k + tot (fs.take (j + 1)) = k + tot (fs.take j) + f.length) := ⟨by omega, by omega⟩
      have i1 : (j : Int) < (fs.length : Int) := by omega
      obtain ⟨ua, uc, rfl⟩ := hus
      generalize hT : k + tot (fs.take j) = T at *
      clear HN ho hon hst e3 e4 e5 hT
      go_wp2_with (go_at_call 9; refine hmk.mono ?_; rintro e w1 ⟨rfl, ho1, hg1⟩)
      obtain ⟨r1, r2, r3, r4⟩ := HN2.out w1 ho1 hg1
      go_roundw
      case rel => exact ⟨j + 1, HJ.out.1, by go_num, by rw [HJ.out.2, Int.natCast_add], r1, r2, r3, r4⟩
      case measure => simp [intOf]; omega
    · obtain rfl : j = fs.length := by omega
      have i1 : (fs.length : Int) ≤ (fs.length : Int) := by omega
      rw [mixS_all] at ho
      rw [List.take_length]
      go_wp2
      go_ret
      exact ⟨rfl, ho, hbel, hst⟩

set_option maxRecDepth 100000 in
set_option maxHeartbeats 1600000 in
theorem heldBs_any (v : Value) (us : List Value) (fs : List (List UInt8)) (B N k : Nat) (w : World) (h : BsOwn w B N v us (bmS k fs)) (hl : fs.length ≤ 1000000) (ht : tot fs ≤ 1000000) (hk : k ≤ 1000000) :
    Calls Try.prog 11 #[v, .int .i64 (k : Int)] w fun e w' => e = .returned (.int .i64 ((k + tot fs : Nat) : Int)) ∧ Below w.heap.size w w' := by
  have l1 : us.length = fs.length := by have := h.len; rwa [bmS_len] at this
  obtain ⟨a, cap, e1⟩ := own_sl h.outer
  rw [l1] at e1
  subst e1
  have HL1 := Nm.hide l1
  clear l1
  go_enter Try.func11, Try.ntmps11
  go_wp2
  go_loopw [1, 5] (fun t i wr => ∃ j : Nat, j ≤ fs.length ∧ i = .int .i64 j ∧ t = .int .i64 ((k + tot (fs.take j) : Nat) : Int) ∧ Below w.heap.size w wr) (fun _ i _ => fs.length - (intOf i).toNat)
  case atStart => exact ⟨0, Nat.zero_le _, rfl, by simp [tot], Below.refl _ _⟩
  case round =>
    obtain ⟨j, hj, rfl, rfl, hbel⟩ := hrel
    by_cases hlt : j < fs.length
    · obtain ⟨g, c1, u, l, ea, hc, hu, hy, hon⟩ := bs_cell (h.below hbel) (i := j) (by rw [HL1.out]; exact hlt)
      obtain ⟨f, hf⟩ : ∃ f, fs[j]? = some f := ⟨_, List.getElem?_eq_getElem hlt⟩
      rw [bmS_get k fs j f hf] at hy
      obtain rfl := Option.some.inj hy
      rw [bmK_len] at hon
      simp only [Value.slice.injEq] at ea
      obtain ⟨rfl, hz9, rfl⟩ := ea
      clear hz9
      have e3 := tot_take hf
      have e4 := tot_le fs j
      have e5 := tot_le fs (j + 1)
      have hhd := heldByK_any u f.length (k + tot (fs.take j)) wr (CRow.of_owns hon) (by omega) (by omega)
      have HJ : Hid (j + 1 ≤ fs.length ∧ k + tot (fs.take (j + 1)) = k + tot (fs.take j) + f.length) := ⟨by omega, by omega⟩
      have i1 : (j : Int) < (fs.length : Int) := by omega
      obtain ⟨ua, uc, rfl⟩ := own_sl hon
      generalize hT : k + tot (fs.take j) = T at *
      clear hon e3 e4 e5 hT
      have i2 : (0 : Int) ≤ ((T + f.length : Nat) : Int) := by omega
      generalize T + f.length = T2 at *
      go_wp2_with (go_at_call 12; refine hhd.mono ?_; rintro e w1 ⟨rfl, hb1⟩)
      go_roundw
      case rel => exact ⟨j + 1, HJ.out.1, by go_num, by rw [HJ.out.2], Nm.below_two hbel hb1⟩
      case measure => simp [intOf]; omega
    · obtain rfl : j = fs.length := by omega
      have i1 : (fs.length : Int) ≤ (fs.length : Int) := by omega
      rw [List.take_length]
      go_wp2
      go_ret
      exact ⟨rfl, hbel⟩
end Go.Proofs.Ytlgeeidbclnhbaa
