/- spec.ZoneRecords by its contract. -/
import Derived.Test.YtghapfpapjgbjaaZrS
namespace Go.Proofs.Ytghapfpapjgbjaa
open Go.RowKit
set_option linter.unusedVariables false

set_option maxRecDepth 100000 in
set_option maxHeartbeats 3200000 in
theorem specZoneRecords_any (o : ByteArray) (v : Value) (ps : List Zp) (w : World) (h : ZRow w v ps) (hs : zsum ps ≤ 1048576) (hl : ps.length ≤ 1048576) :
    Calls Try.prog 5 #[.agg #[.string o, v]] w fun e w' => ∃ u, e = .returned u ∧ w'.ownsRow w.heap.size 49 5 u (zoneRecs ps).length (rvVs (zoneRecs ps)) ∧ Below w.heap.size w w' := by
  obtain ⟨RS, hRS⟩ : ∃ R, R = zoneRecs ps := ⟨_, rfl⟩
  rw [← hRS]
  unfold zoneRecs at hRS
  have hB0 := (Below.refl w.heap.size w).alloc (Nat.le_refl _) (.cells #[.string o, v] 30)
  have hbx := blk_new w #[.string o, v] 30
  have hrow := h.below hB0
  have hrowW := h
  have hsz0 : (w.alloc (.cells #[.string o, v] 30)).heap.size = w.heap.size + 1 := by simp
  have o0 := World.ownsRow_lit (base := (w.alloc (.cells #[.string o, v] 30)).heap.size) (e := 49) (size := 5) (w.alloc (.cells #[.string o, v] 30)) #[] 0 (Nat.le_refl _) (by decide) rfl
  obtain ⟨⟨_, a, cap, rfl, hcap, hmx, _⟩, _⟩ := h
  unfold maxLen at hmx
  by_cases hbig : 500 < ps.length
  · have hbig' : (500 : Int) < (ps.length : Int) := by omega
    obtain rfl : RS = [] := by rw [hRS, if_pos (.inl hbig)]
    clear hRS hrow
    go_enter Try.func5, Try.ntmps5
    go_wp2
    go_ret
    refine ⟨_, rfl, ?_, hB0.alloc hB0.size _⟩
    rw [hsz0] at o0
    exact own_base o0 (by omega)
  · have hbig' : (ps.length : Int) ≤ 500 := by omega
    have hcnt := fun W (hW : Below (w.alloc (.cells #[.string o, .slice a ps.length cap] 30)).heap.size (w.alloc (.cells #[.string o, .slice a ps.length cap] 30)) W) => l06Count_any o (.slice a ps.length cap) ps W (hrow.below hW) hs hl
    by_cases hd : 500 < dsum ps
    · have hd' : (500 : Int) < (dsum ps : Int) := by omega
      obtain rfl : RS = [] := by rw [hRS, if_pos (.inr hd)]
      clear hRS hrow
      generalize dsum ps = D at *
      go_enter Try.func5, Try.ntmps5
      go_wp2_with (go_at_call 14; refine (hcnt _ ((Below.refl _ _).alloc (Nat.le_refl _) _)).mono ?_; rintro e w1 ⟨rfl, hb1⟩)
      go_ret
      refine ⟨_, rfl, ?_, Nm.below_two (hB0.alloc hB0.size _) hb1⟩
      have o1 := own_below o0 hb1
      rw [hsz0] at o1
      exact own_base o1 (by omega)
    · have hd' : (dsum ps : Int) ≤ 500 := by omega
      have hRS2 : RS = recsAll ps := by rw [hRS, if_neg (by omega)]
      clear hRS
      have hdd : ∀ k, dsum (ps.take k) ≤ 500 := fun k => by have := dsum_take_le ps k; omega
      have hrl := fun k => recsAll_len (ps.take k)
      have hstep := fun (k : Nat) (x : Zp) (h : ps[k]? = some x) => recsAll_step h
      have hdst := fun (k : Nat) (x : Zp) (h : ps[k]? = some x) => dsum_step ps k x h
      have hrun := hcnt
      generalize hDP : dsum ps = D at hrun hd'
      go_enter Try.func5, Try.ntmps5
      go_wp2_with (go_at_call 14; refine (hrun _ ((Below.refl _ _).alloc (Nat.le_refl _) _)).mono ?_; rintro e w1 ⟨rfl, hb1⟩)
      have hbx1 := blk_below (blk_alloc hbx (.cells #[] 49)) hb1
      have hB1 := Nm.below_two (hB0.alloc hB0.size (.cells #[] 49)) hb1
      have o1 := own_below o0 hb1
      have hb01 : Below (w.alloc (.cells #[.string o, .slice a ps.length cap] 30)).heap.size (w.alloc (.cells #[.string o, .slice a ps.length cap] 30)) w1 := Nm.below_two ((Below.refl _ _).alloc (Nat.le_refl _) _) hb1
      have hrow1 := hrow.below hb01
      rw [hsz0] at o1
      clear hcnt hrun hb1 hb01 o0 hrow hbx hB0 hsz0
      obtain ⟨wb, hwb⟩ : ∃ wb, wb = w1 := ⟨w1, rfl⟩
      have hw1b : w.heap.size + 1 ≤ w1.heap.size := blk_lt hbx1
      go_loopw [3, 4] (fun vo vi wr => ∃ k : Nat, k ≤ ps.length ∧ vi = .int .i64 k ∧ wr.ownsRow (w.heap.size + 1) 49 5 vo (recsAll (ps.take k)).length (rvVs (recsAll (ps.take k))) ∧ Below (w.heap.size + 1) w1 wr) (fun _ vi _ => ps.length - (intOf vi).toNat)
      case atStart => exact ⟨0, Nat.zero_le _, rfl, o1, Below.refl _ _⟩
      case round =>
        obtain ⟨k, hk, rfl, oO, hbel⟩ := hrel
        clear o1
        have hW : Below w.heap.size w wr := hB1.trans (hbel.mono (by omega))
        have hbr : Blk wr w.heap.size #[.string o, .slice a ps.length cap] 30 := (hbel.block _ (by omega)).trans hbx1
        have q1 : wr.cell? ⟨w.heap.size, 1, none⟩ = some (.slice a ps.length cap) := (blk_cell hbr 1).trans rfl
        have hwsz : w.heap.size + 1 ≤ wr.heap.size := blk_lt hbr
        by_cases hlt : k < ps.length
        · obtain ⟨x, hxk⟩ : ∃ x, ps[k]? = some x := ⟨_, List.getElem?_eq_getElem hlt⟩
          obtain ⟨⟨_, a', cap', hv, _, _, hc⟩, hsr⟩ := hrowW.below hW
          simp only [Value.slice.injEq] at hv
          obtain ⟨rfl, _, rfl⟩ := hv
          obtain ⟨b, off, rfl, hcell⟩ := hc (by omega)
          obtain ⟨c0, c1, c2, c3⟩ := zp_cells hcell hxk
          have hmem := List.mem_of_getElem? hxk
          have hxl : x.1.da.length ≤ 1048576 := by have := zsum_mem ps x hmem; unfold zs1 at this; omega
          have hone := l06SetRecords_any x.1 x.2 wr (hsr x hmem) hxl
          have hsp := hstep k x hxk
          have hld := hdst k x hxk
          have hd1 := hdd (k + 1)
          have hl0 := hrl k
          have hl1 := recsOf_len x.1
          have hjn := fun U W (h1 : W.ownsRow (w.heap.size + 1) 49 5 _ (recsAll (ps.take k)).length (rvVs (recsAll (ps.take k)))) (h2 : W.ownsRow wr.heap.size 49 5 U (recsOf x.1).length (rvVs (recsOf x.1))) hB => l06Join_any _ U (recsAll (ps.take k)) (recsOf x.1) (w.heap.size + 1) wr.heap.size W h1 h2 hB (fun g hg => (oO.lt g hg).2) (by omega)
          rw [← hsp] at hjn
          have i1 : (0 : Int) ≤ (k : Int) := by omega
          have i2 : (k : Int) < (ps.length : Int) := by omega
          clear hcell hc hsr hrowW hstep hdst hrl hdd hsp hld hl0 hl1 hmem hxk
          generalize recsAll (ps.take k) = R0 at *
          generalize hR1 : recsAll (ps.take (k + 1)) = R1 at *
          generalize recsOf x.1 = R2 at *
          obtain ⟨⟨o1, ty, tt, da⟩, dv⟩ := x
          simp only at c0 c1 c2 c3 hone
          obtain ⟨oa, oc, hov⟩ := own_sl oO
          subst hov
          go_wp2_with (first | (go_at_call 16; refine hone.mono ?_; rintro e w2 ⟨u, rfl, hu, hb2⟩; have oO2 := own_below oO hb2) | (go_at_call 15; refine (hjn _ _ oO2 hu (by have := hb2.size; omega)).mono ?_; rintro e w3 ⟨u3, rfl, hu3, hb3⟩))
          go_roundw
          case rel => exact ⟨k + 1, by omega, by go_num, by rw [hR1]; exact hu3, (hbel.trans (hb2.mono (by omega))).trans hb3⟩
          case measure => simp [intOf]; omega
        · have hkl : k = ps.length := by omega
          subst hkl
          have i2 : (ps.length : Int) ≤ (ps.length : Int) := by omega
          rw [List.take_length, ← hRS2] at oO
          clear hrowW hstep hdst hrl hdd hRS2
          go_wp2
          go_ret
          exact ⟨_, rfl, own_base oO (by omega), hW⟩
end Go.Proofs.Ytghapfpapjgbjaa
