/- laws.szSet, szSetS, szZone by their contracts. -/
import Derived.Test.YtghapfpapjgbjaaZnM
import Derived.RegionTactic
namespace Go.Proofs.Ytghapfpapjgbjaa
open Go.RowKit
set_option linter.unusedVariables false

set_option maxRecDepth 100000 in
set_option maxHeartbeats 800000 in
theorem szSet_any (s : Sz) (dv : Value) (L : Int) (w : World) (h : Nm.SRow w dv s.da) (h0 : 0 ≤ L) (h1 : L ≤ 1048576) (ho : s.own.size ≤ maxLen) (hd : ∀ x ∈ s.da, x.size ≤ maxLen) :
    Calls Try.prog 24 #[.agg #[.string s.own, .int .i64 s.ty, .int .i64 s.tt, dv], .int .i64 L] w fun e w' => e = .returned (.int .i64 (szZ1 s L)) ∧ Below w.heap.size w w' := by
  unfold maxLen at ho
  have hB := (Below.refl w.heap.size w).alloc (Nat.le_refl _) (.cells #[.string s.own, .int .i64 s.ty, .int .i64 s.tt, dv] 54)
  have hcall := fun K h0 h1 => szStringS_any dv s.da K _ (h.below hB) hd h0 h1
  obtain ⟨a, cap, rfl, _⟩ := h
  obtain ⟨o, ty, tt, da⟩ := s
  simp only at *
  by_cases hm : L - o.size < 0
  · have HS : Hid (szZ1 ⟨o, ty, tt, da⟩ L = -1) := if_neg (by simp only [zs1]; omega)
    clear hcall hd
    go_enter Try.func24, Try.ntmps24
    go_wp2
    go_ret
    rw [HS.out]
    exact ⟨rfl, hB⟩
  · have hm' : 0 ≤ L - o.size := by omega
    have hone := hcall (L - o.size) hm' (by omega)
    clear hcall hd
    by_cases hn : (da.length : Int) + (ssum da : Int) ≤ L - o.size
    · have HS : Hid (szZ1 ⟨o, ty, tt, da⟩ L = L - o.size - da.length - ssum da) := by
        show _ = _
        rw [szZ1, if_pos (by simp only [zs1]; omega)]
        simp only [zs1]; omega
      have e1 : szS da (L - o.size) = L - o.size - da.length - ssum da := if_pos hn
      have hnn : 0 ≤ L - o.size - da.length - ssum da := by omega
      rw [e1] at hone
      clear e1 hn
      generalize (L - (o.size : Int) - (da.length : Int) - (ssum da : Int)) = L2 at *
      go_enter Try.func24, Try.ntmps24
      go_wp2_with (go_at_call 29; refine hone.mono ?_; rintro e w1 ⟨rfl, rfl⟩)
      go_ret
      rw [HS.out]
      exact ⟨rfl, hB⟩
    · have HS : Hid (szZ1 ⟨o, ty, tt, da⟩ L = -1) := if_neg (by simp only [zs1]; omega)
      have e1 : szS da (L - o.size) = -1 := if_neg hn
      rw [e1] at hone
      clear e1 hn
      go_enter Try.func24, Try.ntmps24
      go_wp2_with (go_at_call 29; refine hone.mono ?_; rintro e w1 ⟨rfl, rfl⟩)
      go_ret
      rw [HS.out]
      exact ⟨rfl, hB⟩

set_option maxRecDepth 100000 in
set_option maxHeartbeats 1600000 in
theorem szSetS_any (v : Value) (ps : List Zp) (L : Int) (w : World) (h : ZRow w v ps) (hx : ZFit ps) (h0 : 0 ≤ L) (h1 : L ≤ 1048576) :
    Calls Try.prog 13 #[v, .int .i64 L] w fun e w' => e = .returned (.int .i64 (szZS ps L)) ∧ Below w.heap.size w w' := by
  obtain ⟨⟨_, a, cap, rfl, hcap, hmx, hc⟩, hd⟩ := h
  unfold maxLen at hmx
  by_cases hm : L < ps.length
  · have HS : Hid (szZS ps L = -1) := if_neg (by omega)
    have hm' : L - (ps.length : Int) < 0 := by omega
    clear hx hc hd
    go_enter Try.func13, Try.ntmps13
    go_wp2
    go_ret
    rw [HS.out]
    exact ⟨rfl, Below.refl _ _⟩
  · have hl : (ps.length : Int) ≤ 1048576 := by omega
    have hm' : (0 : Int) ≤ L - (ps.length : Int) := by omega
    have hsz := fun (p : Zp) (hp : p ∈ ps) (K : Int) (W : World) (hW : Below w.heap.size w W) (h0 : 0 ≤ K) (h1 : K ≤ 1048576) => szSet_any p.1 p.2 K W ((hd p hp).below hW) h0 h1 (hx p hp).1 (hx p hp).2
    clear hd
    go_enter Try.func13, Try.ntmps13
    go_wp2
    go_loopw [1, 5] (fun t i wr => ∃ k : Nat, k ≤ ps.length ∧ i = .int .i64 k ∧ t = .int .i64 (L - ps.length - zsum (ps.take k)) ∧ Hid ((ps.length : Int) + zsum (ps.take k) ≤ L) ∧ Below w.heap.size w wr) (fun _ i _ => ps.length - (intOf i).toNat)
    case atStart => exact ⟨0, Nat.zero_le _, rfl, by simp [zsum], by show _ ≤ L; simp [zsum]; omega, Below.refl _ _⟩
    case round =>
      obtain ⟨k, hk, rfl, rfl, hle, hbel⟩ := hrel
      by_cases hlt : k < ps.length
      · obtain ⟨x, hxk⟩ : ∃ x, ps[k]? = some x := ⟨_, List.getElem?_eq_getElem hlt⟩
        obtain ⟨b, off, rfl, hcell⟩ := hc (by omega)
        obtain ⟨c0, c1, c2, c3⟩ := zp_cells hcell hxk
        have put : ∀ {O : Nat} {z : Value}, w.cell? ⟨b, O, none⟩ = some z → wr.cell? ⟨b, O, none⟩ = some z := fun h => (hbel.cell (World.block_lt_of_cell? w _ h)).trans h
        replace c0 := put c0
        replace c1 := put c1
        replace c2 := put c2
        replace c3 := put c3
        have HS : Hid (zsum (ps.take (k + 1)) = zsum (ps.take k) + zs1 x.1) := zsum_step ps k x hxk
        have hs1 : Hid (zsum (ps.take (k + 1)) ≤ zsum ps) := zsum_take_le ps (k + 1)
        have hone := hsz x (List.mem_of_getElem? hxk) (L - ps.length - zsum (ps.take k)) wr hbel (by have := hle.out; omega) (by omega)
        have i1 : (0 : Int) ≤ (k : Int) := by omega
        have i2 : (k : Int) < (ps.length : Int) := by omega
        by_cases hb : (zs1 x.1 : Int) ≤ L - ps.length - zsum (ps.take k)
        · have e1 : szZ1 x.1 (L - ps.length - zsum (ps.take k)) = L - ps.length - zsum (ps.take (k + 1)) := by
            have := HS.out
            rw [szZ1, if_pos hb]; omega
          have hnn : 0 ≤ L - (ps.length : Int) - zsum (ps.take (k + 1)) := by have := HS.out; omega
          have hle2 : Hid ((ps.length : Int) + zsum (ps.take (k + 1)) ≤ L) := by show _ ≤ L; omega
          rw [e1] at hone
          clear hxk hcell hc hx hsz HS hb e1 hs1
          generalize hL2 : (L - (ps.length : Int) - (zsum (ps.take (k + 1)) : Int)) = L2 at *
          generalize (L - (ps.length : Int) - (zsum (ps.take k) : Int)) = L1 at *
          go_wp2_with (go_at_call 24; refine hone.mono ?_; rintro e w1 ⟨rfl, hb1⟩)
          go_roundw
          case rel => exact ⟨k + 1, by omega, by go_num, by rw [hL2], hle2, Nm.below_two hbel hb1⟩
          case measure => simp [intOf]; omega
        · have HZ : Hid (szZS ps L = -1) := if_neg (by have := HS.out; have := hs1.out; omega)
          have e1 : szZ1 x.1 (L - ps.length - zsum (ps.take k)) = -1 := if_neg hb
          rw [e1] at hone
          clear hxk hcell hc hx hsz HS hb e1 hs1
          generalize (L - (ps.length : Int) - (zsum (ps.take k) : Int)) = L1 at *
          go_wp2_with (go_at_call 24; refine hone.mono ?_; rintro e w1 ⟨rfl, hb1⟩)
          go_ret
          rw [HZ.out]
          exact ⟨rfl, Nm.below_two hbel hb1⟩
      · have hkl : k = ps.length := by omega
        have HZ : Hid (szZS ps L = L - ps.length - zsum (ps.take k)) := by
          have := hle.out
          rw [hkl, List.take_length] at this ⊢
          exact if_pos this
        have i2 : (ps.length : Int) ≤ (k : Int) := by omega
        clear hc hx hsz
        generalize (L - (ps.length : Int) - (zsum (ps.take k) : Int)) = L1 at *
        go_wp2
        go_ret
        rw [HZ.out]
        exact ⟨rfl, hbel⟩

set_option maxRecDepth 100000 in
set_option maxHeartbeats 1600000 in
theorem szZone_any (o : ByteArray) (v : Value) (ps : List Zp) (L : Int) (w : World) (h : ZRow w v ps) (hx : ZFit ps) (ho : o.size ≤ maxLen) (h0 : 0 ≤ L) (h1 : L ≤ 1048576) :
    Calls Try.prog 4 #[.agg #[.string o, v], .int .i64 L] w fun e w' => e = .returned (.int .i64 (szZ o ps L)) ∧ Below w.heap.size w w' := by
  unfold maxLen at ho
  have hB := (Below.refl w.heap.size w).alloc (Nat.le_refl _) (.cells #[.string o, v] 24)
  have hcall := fun K h0 h1 => szSetS_any v ps K _ (h.below hB) hx h0 h1
  obtain ⟨⟨_, a, cap, rfl, _⟩, _⟩ := h
  clear hx
  by_cases hm : L - o.size < 0
  · have HS : Hid (szZ o ps L = -1) := if_neg (by omega)
    clear hcall
    go_enter Try.func4, Try.ntmps4
    go_wp2
    go_ret
    rw [HS.out]
    exact ⟨rfl, hB⟩
  · have hm' : 0 ≤ L - o.size := by omega
    have hone := hcall (L - o.size) hm' (by omega)
    clear hcall
    by_cases hn : (ps.length : Int) + (zsum ps : Int) ≤ L - o.size
    · have HS : Hid (szZ o ps L = L - o.size - ps.length - zsum ps) := if_pos (by omega)
      have e1 : szZS ps (L - o.size) = L - o.size - ps.length - zsum ps := if_pos hn
      have hnn : 0 ≤ L - o.size - ps.length - zsum ps := by omega
      rw [e1] at hone
      clear e1 hn
      generalize (L - (o.size : Int) - (ps.length : Int) - (zsum ps : Int)) = L2 at *
      go_enter Try.func4, Try.ntmps4
      go_wp2_with (go_at_call 13; refine hone.mono ?_; rintro e w1 ⟨rfl, hb1⟩)
      go_ret
      rw [HS.out]
      exact ⟨rfl, Nm.below_two hB hb1⟩
    · have HS : Hid (szZ o ps L = -1) := if_neg (by omega)
      have e1 : szZS ps (L - o.size) = -1 := if_neg hn
      rw [e1] at hone
      clear e1 hn
      go_enter Try.func4, Try.ntmps4
      go_wp2_with (go_at_call 13; refine hone.mono ?_; rintro e w1 ⟨rfl, hb1⟩)
      go_ret
      rw [HS.out]
      exact ⟨rfl, Nm.below_two hB hb1⟩
end Go.Proofs.Ytghapfpapjgbjaa
