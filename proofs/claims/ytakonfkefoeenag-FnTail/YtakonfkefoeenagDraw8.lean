/- spec.l01Case by its contract. -/
import Derived.Test.YtakonfkefoeenagSrcMade
import Derived.Test.YtakonfkefoeenagSSplit
import Derived.Test.YtakonfkefoeenagFoldM
namespace Go.Proofs.Ytakonfkefoeenag
open Go.RowKit

/-- A row of strings of the call's own, the source, and a row of bytes besides. -/
def InC (w wr : World) (g : Nat) (a : Option Addr) (n cap gr m rc : Nat) (ls : List ByteArray) (gb : Nat) (l : List UInt8) : Prop :=
  wr.ownsRow w.heap.size 9 1 (.slice (some ⟨gr, 0, none⟩) m rc) m (ls.map Value.string) ∧ Src wr g a n cap ∧ w.grownBy wr (some g) ∧ BRow wr gb l ∧ gr ≠ gb ∧ w.heap.size ≤ gb

theorem code_ne {w : World} {g n gb : Nat} {a : Option Addr} (h : CodeAt w g a n) (hb : w.heap.size ≤ gb) : n = 0 ∨ ∀ b off, a = some ⟨b, off, none⟩ → b ≠ gb := by
  rcases Nat.eq_zero_or_pos n with hn | hn
  · exact .inl hn
  refine .inr fun b off e => ?_
  rcases h with h0 | ⟨b', off', e', _, hc⟩
  · omega
  · rw [e] at e'
    simp only [Option.some.injEq, Addr.mk.injEq, and_true] at e'
    obtain ⟨rfl, rfl⟩ := e'
    obtain ⟨c, hc1, _⟩ := hc 0 (by omega)
    have : b < w.heap.size := World.block_lt_of_cell? w _ hc1
    omega

theorem inc_next {w wr w1 : World} {g n cap gr m rc gb : Nat} {a : Option Addr} {ls : List ByteArray} {l : List UInt8} (hg : g < w.heap.size) (h : InC w wr g a n cap gr m rc ls gb l) (hs : Src w1 g a n cap) (hgr : wr.grownBy w1 (some g)) : InC w w1 g a n cap gr m rc ls gb l := by
  obtain ⟨h1, h2, h3, h4, h5, h6⟩ := h
  exact ⟨h1.kept hgr (row_src h1 h2 (by decide)), hs, grown_step h3 hgr, brow_grown h4 hgr (by omega), h5, h6⟩

theorem inc_set {w wr : World} {g n cap gr m rc gb k : Nat} {a : Option Addr} {ls : List ByteArray} {l : List UInt8} (hg : g < w.heap.size) (hcode : CodeAt w g a n) (h : InC w wr g a n cap gr m rc ls gb l) (hk : k < l.length) (z : Int) (hz0 : 0 ≤ z) (hz1 : z < 256) :
    ∃ l', l'.length = l.length ∧ InC w (wr.setCell ⟨gb, k, none⟩ (.int .u8 z)) g a n cap gr m rc ls gb l' := by
  obtain ⟨h1, h2, h3, h4, h5, h6⟩ := h
  obtain ⟨d, rfl⟩ := byte_of_int hz0 hz1
  refine ⟨l.set k d, by simp, h1.kept (row := some gb) ⟨rfl, rfl, rfl, by simp, fun q _ hq => heap_setCell_other wr ⟨gb, k, none⟩ q _ (fun e => hq (by simp [e]))⟩ (.inr (by simpa [Value.ownBlock] using h5)), src_setOther h2 (by omega) (code_ne hcode h6), grown_set h3 h6, h4.set hk, h5, h6⟩

theorem wsum_set {ls : List ByteArray} {k : Nat} {x y : ByteArray} (h : ls[k]? = some x) (he : y.size = x.size) : Nm.wsum (ls.set k y) = Nm.wsum ls := by
  have hk : k < ls.length := (List.getElem?_eq_some_iff.1 h).1
  have hx : ls[k] = x := (List.getElem?_eq_some_iff.1 h).2
  have e1 : ls = ls.take k ++ (x :: ls.drop (k + 1)) := by
    rw [← hx, ← List.drop_eq_getElem_cons hk, List.take_append_drop]
  have e2 : ls.set k y = ls.take k ++ (y :: ls.drop (k + 1)) := by
    rw [List.set_eq_take_append_cons_drop, if_pos hk]
  rw [e2, Nm.wsum_append]
  conv => rhs; rw [e1, Nm.wsum_append]
  simp [Nm.wsum, he]

theorem inc_stored {w wr : World} {g n cap gr m rc gb k : Nat} {a : Option Addr} {ls : List ByteArray} {l : List UInt8} (hg : g < w.heap.size) (hcode : CodeAt w g a n) (h : InC w wr g a n cap gr m rc ls gb l) (hw : w.heap.size ≤ gr) (y : ByteArray) :
    (wr.setCell ⟨gr, k, none⟩ (.string y)).ownsRow w.heap.size 9 1 (.slice (some ⟨gr, 0, none⟩) m rc) m ((ls.set k y).map Value.string) ∧ Src (wr.setCell ⟨gr, k, none⟩ (.string y)) g a n cap ∧ w.grownBy (wr.setCell ⟨gr, k, none⟩ (.string y)) (some g) := by
  obtain ⟨h1, h2, h3, h4, h5, h6⟩ := h
  refine ⟨?_, src_setOther h2 (by omega) (code_ne hcode hw), grown_set h3 hw⟩
  have := (h1.stored k (.string y)).1
  rw [List.map_set]
  exact this

theorem inc_start {w wr W : World} {g n cap gr m rc : Nat} {a : Option Addr} {ls : List ByteArray} {l : List UInt8} (h1 : wr.ownsRow w.heap.size 9 1 (.slice (some ⟨gr, 0, none⟩) m rc) m (ls.map Value.string)) (h2 : Src wr g a n cap) (h3 : w.grownBy wr (some g)) (hb : Below wr.heap.size wr W) (hr : BRow W wr.heap.size l) :
    InC w W g a n cap gr m rc ls wr.heap.size l := by
  have hlt := h1.lt gr rfl
  exact ⟨h1.kept (row := none) ⟨hb.os, hb.tape, hb.output, hb.size, fun k hk _ => hb.block k hk⟩ (.inr (by simp [Value.ownBlock])), src_below h2 hb, grown_below h3 hb, hr, by omega, h3.size⟩

set_option maxRecDepth 100000 in
set_option maxHeartbeats 1600000 in
theorem l01Case_any (g : Nat) (a : Option Addr) (n cap : Nat) (nm : ByteArray) (w : World) (h : Src w g a n cap) (hz : nm.size ≤ maxLen) :
    Calls Try.prog 35 #[.pointer (some ⟨g, 0, none⟩), .string nm] w fun e w' => ∃ s : ByteArray, e = .returned (.string s) ∧ s.size ≤ 255 ∧ Src w' g a n cap ∧ w.grownBy w' (some g) := by
  obtain ⟨hcode, hglt⟩ := src_code h
  have hsp := l01Split_any nm w hz
  have hws : Nm.wsum ((Nm.split nm).getD []) ≤ 254 := by
    cases hq : Nm.split nm with
    | none => simp [Nm.wsum]
    | some ls => have := Nm.split_size hq; simp; omega
  generalize (Nm.split nm).getD [] = ls at *
  generalize (Nm.split nm).isSome = ok at *
  go_enter Try.func35, Try.ntmps35
  go_wp2_with fail
  refine hsp.mono ?_
  rintro e w1 ⟨v, rfl, hown, hbel⟩
  have hs1 := src_below h hbel
  have hg1 := grown_below (World.grownBy.refl w (some g)) hbel
  clear hsp h hbel
  by_cases hn : ls = []
  · subst hn
    have hr := Nm.SRow.of_owns (ls := []) hown
    have hr' := hr
    obtain ⟨ra, rcap, rfl, hcap, hmx, hnl, hc⟩ := hr'
    clear hown hc hnl
    go_wp2
    go_loop [7] (fun i => i = .int .i64 0) (fun _ => 0)
    case atStart => rfl
    case round =>
      subst hrel
      go_wp2_with (go_at_call 68; refine (l01Join_any _ [] _ hr (by simp [Nm.wsum])).mono ?_; rintro e w2 ⟨rfl, hbel2⟩)
      go_ret
      exact ⟨_, rfl, by rw [mkj_size]; simp [Nm.wsum], src_below hs1 hbel2, grown_below hg1 hbel2⟩
  · have hlp : 0 < ls.length := List.length_pos_iff.2 hn
    obtain ⟨gr, rc, cur, rfl, hg⟩ : ∃ g cap cur, v = .slice (some ⟨g, 0, none⟩) ls.length cap ∧ w.heap.size ≤ g ∧ ls.length ≤ cap ∧ cap ≤ maxLen ∧ w1.heap[g]? = some (.cells cur 9 (0, 0)) := by
      rcases hown.2 with ⟨rfl, h0⟩ | ⟨g, cap, cur, rfl, hb, hg, hnc, hm, _⟩
      · omega
      · exact ⟨g, cap, cur, rfl, hb, hnc, hm, hg⟩
    obtain ⟨hwg, hnc, hm, _⟩ := hg
    unfold maxLen at hm
    generalize hm0 : ls.length = m at *
    go_wp2
    go_loopw [7] (fun i wr => ∃ (k : Nat) (ls2 : List ByteArray), k ≤ m ∧ i = .int .i64 k ∧ ls2.length = m ∧ Nm.wsum ls2 ≤ 254 ∧ wr.ownsRow w.heap.size 9 1 (.slice (some ⟨gr, 0, none⟩) m rc) m (ls2.map Value.string) ∧ Src wr g a n cap ∧ w.grownBy wr (some g))
      (fun i _ => m - (intOf i).toNat)
    case atStart => exact ⟨0, ls, Nat.zero_le _, rfl, hm0, hws, hown, hs1, hg1⟩
    case round =>
      obtain ⟨k, ls2, hk, rfl, hl2, hw2, hown2, hs2, hg2⟩ := hrel
      clear hown hs1 hg1 hws hm0 hn
      have hsz2 := hg2.size
      by_cases hlt : k < m
      · obtain ⟨x, hx⟩ : ∃ x, ls2[k]? = some x := ⟨_, List.getElem?_eq_getElem (by omega)⟩
        have hxz : x.size ≤ 254 := by
          have := wsum_set (y := x) hx rfl
          have h1 := Nm.wsum_step hx
          have h2 := Nm.wsum_take_le ls2 (k + 1)
          omega
        have hcx : wr.cell? ⟨gr, k, none⟩ = some (.string x) := by
          rw [hown2.cellAt k (by omega)]
          simp [hx]
        obtain ⟨cp, W, hcp, hcpm, hrun, hrow, hbw⟩ := new_bytes x wr
        have hcpm' := hcpm (by unfold maxLen; omega)
        unfold maxLen at hcpm'
        have hinc := inc_start hown2 hs2 hg2 hbw hrow
        have hxl : x.data.toList.length = x.size := by simp
        clear hcpm hrow hbw hown2 hs2 hg2
        go_wp2
        go_loopw [9] (fun i w2 => ∃ (j : Nat) (l : List UInt8), j ≤ x.size ∧ i = .int .i64 j ∧ l.length = x.size ∧ InC w w2 g a n cap gr m rc ls2 wr.heap.size l)
          (fun i _ => x.size - (intOf i).toNat)
        case atStart => exact ⟨0, _, Nat.zero_le _, rfl, hxl, hinc⟩
        case round =>
          rename World => w2
          obtain ⟨j, l, hj, rfl, hll, hin⟩ := hrel
          clear hinc hrun hcx
          by_cases hjt : j < x.size
          · obtain ⟨c, hc⟩ : ∃ c, l[j]? = some c := ⟨_, List.getElem?_eq_getElem (by omega)⟩
            obtain ⟨hcc, hcf⟩ := hin.2.2.2.1 j c hc
            have hc255 : (c.toNat : Int) < 256 := by have := c.toNat_lt; omega
            by_cases h97 : 97 ≤ c.toNat
            · by_cases h122 : c.toNat ≤ 122
              · have d1 : decide ((97 : Int) ≤ (c.toNat : Int)) = true := by simp; omega
                have d2 : decide ((c.toNat : Int) ≤ 122) = true := by simp; omega
                have d3 : (97 : Int) ≤ (c.toNat : Int) := by omega
                have d4 : (c.toNat : Int) ≤ 122 := by omega
                clear h97 h122
                go_wp2_with fail
                refine (l01Next_any g a n cap 3 _ hin.2.1 (by decide)).mono ?_
                rintro e w3 ⟨r, rfl, hr0, hr1, hs3, hg3⟩
                have hin3 := inc_next hglt hin hs3 hg3
                obtain ⟨hcc3, hcf3⟩ := hin3.2.2.2.1 j c hc
                clear hcc hcf hr1 hs3 hg3
                by_cases hr : r = 0
                · subst hr
                  obtain ⟨l', hl', hin'⟩ := inc_set hglt hcode hin3 (k := j) (by omega) ((c.toNat : Int) - 32) (by omega) (by omega)
                  have HI := Nm.hide hin'
                  clear hin' hin3 hin hc
                  go_wp2
                  go_roundw
                  case rel => exact ⟨j + 1, l', by omega, by go_num, by omega, HI.out⟩
                  case measure => simp [intOf]; omega
                · have hr' : (r == 0) = false := by rw [beq_eq_false_iff_ne]; exact hr
                  clear hcc3 hcf3
                  go_wp2
                  go_roundw
                  case rel => exact ⟨j + 1, l, by omega, by go_num, hll, hin3⟩
                  case measure => simp [intOf]; omega
              · have d1 : decide ((97 : Int) ≤ (c.toNat : Int)) = true := by simp; omega
                have d2 : decide ((c.toNat : Int) ≤ 122) = false := by simp; omega
                have d3 : (97 : Int) ≤ (c.toNat : Int) := by omega
                have d4 : (122 : Int) < (c.toNat : Int) := by omega
                go_wp2
                go_roundw
                case rel => exact ⟨j + 1, l, by omega, by go_num, hll, hin⟩
                case measure => simp [intOf]; omega
            · have d1 : decide ((97 : Int) ≤ (c.toNat : Int)) = false := by simp; omega
              have d3 : (c.toNat : Int) < 97 := by omega
              go_wp2
              go_roundw
              case rel => exact ⟨j + 1, l, by omega, by go_num, hll, hin⟩
              case measure => simp [intOf]; omega
          · have hje : j = x.size := by omega
            subst hje
            have hcv := conv_brow (cap := cp) (k := x.size) hin.2.2.2.1 (by omega)
            have hys := mk_size (l.take x.size)
            generalize ByteArray.mk (l.take x.size).toArray = y at *
            have hyz : y.size = x.size := by rw [hys, List.length_take]; omega
            have hcr : w2.cell? ⟨gr, k, none⟩ = some (.string x) := by
              rw [hin.1.cellAt k (by omega)]
              simp [hx]
            have hfr := hin.1.frozenAt k
            have HI := Nm.hide (inc_stored (k := k) hglt hcode hin hwg y)
            have hwy := wsum_set hx hyz
            clear hin hys hjt
            go_wp2
            go_roundw
            case rel => exact ⟨k + 1, _, by omega, by go_num, by simpa using hl2, by omega, HI.out.1, HI.out.2.1, HI.out.2.2⟩
            case measure => simp [intOf]; omega
      · have hkl : k = m := by omega
        subst hkl
        go_wp2_with (go_at_call 68; refine (l01Join_any _ ls2 _ (Nm.SRow.of_owns (by rw [hl2]; exact hown2)) (by omega)).mono ?_; rintro e w3 ⟨rfl, hb3⟩)
        go_ret
        exact ⟨_, rfl, by rw [mkj_size]; omega, src_below hs2 hb3, grown_below hg2 hb3⟩
end Go.Proofs.Ytakonfkefoeenag
