/- spec.l01Spoil by its contract. -/
import Derived.Test.YtakonfkefoeenagDraw2
import Derived.Test.YtakonfkefoeenagBytesRow
namespace Go.Proofs.Ytakonfkefoeenag
open Go.RowKit

theorem brow_grown {w w1 : World} {g gb : Nat} {l : List UInt8} (h : BRow w gb l) (hg : w.grownBy w1 (some g)) (hne : gb ≠ g) : BRow w1 gb l := by
  intro j c hj
  obtain ⟨h1, h2⟩ := h j c hj
  have hlt := World.block_lt_of_cell? w _ h1
  have hblk := hg.block gb hlt (fun e => hne (by simpa using e))
  exact ⟨(World.cell?_of_block (w := w) hblk).trans h1, (World.frozen?_of_block (w := w) hblk).trans h2⟩

theorem conv_brow {w : World} {gb cap k : Nat} {l : List UInt8} (h : BRow w gb l) (hk : k ≤ l.length) :
    (convert 24 9 (.slice (some ⟨gb, 0, none⟩) k cap)).run Try.prog w = .ok (.string ⟨(l.take k).toArray⟩) w := by
  have hl : (l.take k).length = k := by simp; omega
  have := run_convert_bytes_back (P := Try.prog) w 24 9 5 ⟨gb, 0, none⟩ cap (l.take k) Try.underlying24 Try.underlying5 Try.underlying9 (by
    intro j hj
    rw [Nm.addr_add, Nat.zero_add]
    refine (h j _ ?_).1
    rw [List.getElem_take]
    exact List.getElem?_eq_getElem (by omega))
  rw [hl] at this
  exact this

theorem src_setOther {w : World} {g gb i n cap : Nat} {a : Option Addr} {v : Value} (h : Src w g a n cap) (hne : gb ≠ g) (hcode : n = 0 ∨ ∀ b off, a = some ⟨b, off, none⟩ → b ≠ gb) : Src (w.setCell ⟨gb, i, none⟩ v) g a n cap := by
  obtain ⟨pos, st, h1, h2, h3, h4, h5⟩ := h
  refine ⟨pos, st, ?_, h2, h3, h4, ?_⟩
  · rw [heap_setCell_other w ⟨gb, i, none⟩ g v (fun e => hne e.symm)]; exact h1
  · rcases h5 with h5 | ⟨b, off, e, hb, hc⟩
    · exact .inl h5
    · rcases hcode with h6 | h6
      · exact .inl h6
      · refine .inr ⟨b, off, e, hb, fun j hj => ?_⟩
        obtain ⟨c, hc1, hc2⟩ := hc j hj
        refine ⟨c, ?_, hc2⟩
        rw [World.cell?_setCell_other w ⟨gb, i, none⟩ ⟨b, off + j, none⟩ v (by intro h; cases h; exact h6 _ off e rfl)]
        exact hc1

theorem grown_set {w w1 : World} {g gb i : Nat} {v : Value} (h : w.grownBy w1 (some g)) (hb : w.heap.size ≤ gb) : w.grownBy (w1.setCell ⟨gb, i, none⟩ v) (some g) :=
  grown_own h (row := some gb) ⟨rfl, rfl, rfl, by simp, fun k _ hk => heap_setCell_other w1 ⟨gb, i, none⟩ k v (fun e => hk (by simp [e]))⟩ (fun k hk => by simp at hk; omega)

theorem brow_len_set {l : List UInt8} {k : Nat} {d : UInt8} : (l.set k d).length = l.length := by simp

set_option maxRecDepth 100000 in
set_option maxHeartbeats 1600000 in
theorem l01Spoil_any (g : Nat) (a : Option Addr) (n cap : Nat) (nm : ByteArray) (w : World) (h : Src w g a n cap) (h1 : 1 ≤ nm.size) (h2 : nm.size ≤ 1000) :
    Calls Try.prog 74 #[.pointer (some ⟨g, 0, none⟩), .string nm] w fun e w' => ∃ s : ByteArray, e = .returned (.string s) ∧ s.size ≤ 2000 ∧ Src w' g a n cap ∧ w.grownBy w' (some g) := by
  obtain ⟨hcode, hglt⟩ := src_code h
  obtain ⟨cp, W, hcp, hcpm, hrun, hrow, hbw⟩ := new_bytes nm w
  have hcpm' := hcpm (by unfold maxLen; omega)
  unfold maxLen at hcpm'
  have hs0 := src_below h hbw
  have hg0 := grown_below (World.grownBy.refl w (some g)) hbw
  have hne : w.heap.size ≠ g := by omega
  have hcb : n = 0 ∨ ∀ b off, a = some ⟨b, off, none⟩ → b ≠ w.heap.size := by
    rcases Nat.eq_zero_or_pos n with hn | hn
    · exact .inl hn
    refine .inr fun b off e => ?_
    rcases hcode with h0 | ⟨b', off', e', _, hc⟩
    · omega
    · rw [e] at e'
      simp only [Option.some.injEq, Addr.mk.injEq, and_true] at e'
      obtain ⟨rfl, rfl⟩ := e'
      obtain ⟨c, hc1, _⟩ := hc 0 (by omega)
      have : b < w.heap.size := World.block_lt_of_cell? w _ hc1
      omega
  have hone : (ByteArray.mk #[97]).size = 1 := rfl
  have hone2 : (ByteArray.mk #[64]).size = 1 := rfl
  have hlen : nm.data.toList.length = nm.size := by simp
  clear hcpm h hbw
  go_enter Try.func74, Try.ntmps74
  go_wp2_with fail
  refine (l01Next_any g a n cap 6 _ hs0 (by decide)).mono ?_
  rintro e w1 ⟨r, rfl, hr0, hr1, hs1, hg1⟩
  have hr2 := hr1 (by decide)
  have hrow1 := brow_grown hrow hg1 hne
  have hgg := grown_step hg0 hg1
  have hsz1 := hgg.size
  clear hr1 hrun hs0 hg0 hrow hg1
  rcases (by omega : r = 0 ∨ r = 1 ∨ r = 2 ∨ r = 3 ∨ r = 4 ∨ r = 5) with rfl | rfl | rfl | rfl | rfl | rfl
  · go_wp2
    go_ret
    exact ⟨_, rfl, by rw [ByteArray.size_append, hone]; omega, hs1, hgg⟩
  · have hcv := conv_brow (cap := cp) (k := nm.size - 1) hrow1 (by omega)
    have hms := mk_size (nm.data.toList.take (nm.size - 1))
    generalize ByteArray.mk (nm.data.toList.take (nm.size - 1)).toArray = T at *
    have HT : Hid (T.size ≤ 2000) := by show _ ≤ _; rw [hms, List.length_take]; omega
    clear hms
    go_wp2
    go_ret
    exact ⟨_, rfl, HT.out, hs1, hgg⟩
  · go_wp2
    go_ret
    exact ⟨_, rfl, by decide, hs1, hgg⟩
  · have hl0 : 0 < nm.size := by omega
    obtain ⟨c0, hc0⟩ : ∃ c0, nm.data.toList[0]? = some c0 := ⟨_, List.getElem?_eq_getElem (by omega)⟩
    have hidx : (0 : Int) < (nm.size : Int) := by omega
    go_wp2_with (go_at_call 73; refine (l01Next_any g a n cap 256 _ hs1 (by decide)).mono ?_; rintro e w2 ⟨q, rfl, hq0, hq1, hs2, hg2⟩; have hq2 := hq1 (by decide); obtain ⟨c, hc⟩ := byte_of_int hq0 hq2; subst hc; have hrow2 := brow_grown hrow1 hg2 hne; have hgg2 := grown_step hgg hg2; obtain ⟨hcell, hfz⟩ := hrow2 0 c0 hc0; have HS := Nm.hide (src_setOther (i := 0) (v := .int .u8 (c.toNat : Int)) hs2 hne hcb); have HG := Nm.hide (grown_set (i := 0) (v := .int .u8 (c.toNat : Int)) hgg2 (Nat.le_refl _)); have hcv := conv_brow (cap := cp) (k := nm.size) (hrow2.set (k := 0) (d := c) (by omega)) (by rw [brow_len_set]; omega); clear hq1)
    go_ret
    exact ⟨_, rfl, by rw [mk_size, List.length_take]; omega, HS.out, HG.out⟩
  · have hcv := conv_brow (cap := cp) (k := nm.size) hrow1 (by omega)
    have hms := mk_size (nm.data.toList.take nm.size)
    generalize ByteArray.mk (nm.data.toList.take nm.size).toArray = T at *
    have hT : T.size ≤ 1000 := by rw [hms, List.length_take]; omega
    clear hms
    go_wp2
    go_ret
    exact ⟨_, rfl, by rw [ByteArray.size_append, hone2]; omega, hs1, hgg⟩
  · have hl0 : 0 < nm.size := by omega
    go_wp2_with (go_at_call 73; refine (l01Next_any g a n cap (nm.size : Int) _ hs1 (by omega)).mono ?_; rintro e w2 ⟨q, rfl, hq0, hq1, hs2, hg2⟩; have hq2 := hq1 (by omega); obtain ⟨k, rfl⟩ := Int.eq_ofNat_of_zero_le hq0; have hkl : k < nm.data.toList.length := (by omega); obtain ⟨c0, hc0⟩ : ∃ c0, nm.data.toList[k]? = some c0 := ⟨_, List.getElem?_eq_getElem hkl⟩; have hrow2 := brow_grown hrow1 hg2 hne; have hgg2 := grown_step hgg hg2; obtain ⟨hcell, hfz⟩ := hrow2 k c0 hc0; have HS := Nm.hide (src_setOther (i := k) (v := .int .u8 0) hs2 hne hcb); have HG := Nm.hide (grown_set (i := k) (v := .int .u8 0) hgg2 (Nat.le_refl _)); have hcv := conv_brow (cap := cp) (k := nm.size) (hrow2.set (k := k) (d := 0) hkl) (by rw [brow_len_set]; omega); have hkn : (k : Int) < (nm.size : Int) := (by omega); have hk0 : (0 : Int) ≤ (k : Int) := (by omega); rw [show (((0 : UInt8).toNat : Nat) : Int) = 0 from rfl] at hcv; clear hq1 hc0)
    go_ret
    exact ⟨_, rfl, by rw [mk_size, List.length_take]; omega, HS.out, HG.out⟩
end Go.Proofs.Ytakonfkefoeenag
