/- spec.l01Bytes by its contract. -/
import Derived.Test.YtakonfkefoeenagSrc
import Derived.Test.YtakonfkefoeenagShowRead
namespace Go.Proofs.Ytakonfkefoeenag
open Go.RowKit

theorem Try.infoU8d : (Try.prog.info? 5).map (fun i => (i.zero, i.size, i.bytes)) = some (some (.int .u8 0), 1, 1) := by kernel_rfl

theorem conv_emptyd (c : Nat) (W : World) : (convert 24 9 (.slice (some ⟨c, 0, none⟩) 0 0)).run Try.prog W = .ok (.string ByteArray.empty) W :=
  run_convert_bytes_back W 24 9 5 ⟨c, 0, none⟩ 0 [] Try.underlying24 Try.underlying5 Try.underlying9 (by intro j hj; simp at hj)

theorem byte_of_int {r : Int} (h0 : 0 ≤ r) (h1 : r < 256) : ∃ c : UInt8, (c.toNat : Int) = r := by
  refine ⟨UInt8.ofNat r.toNat, ?_⟩
  simp
  omega

set_option maxRecDepth 100000 in
set_option maxHeartbeats 800000 in
theorem l01Bytes_any (g : Nat) (a : Option Addr) (n cap : Nat) (N : Int) (w : World) (h : Src w g a n cap) (hN0 : 0 ≤ N) (hN : N ≤ 1048576) :
    Calls Try.prog 93 #[.pointer (some ⟨g, 0, none⟩), .int .i64 N] w fun e w' => ∃ s : ByteArray, e = .returned (.string s) ∧ (s.size : Int) = N ∧ Src w' g a n cap ∧ w.grownBy w' (some g) := by
  obtain ⟨j0, hj, k0, k1, k2⟩ := info_parts Try.infoU8d
  obtain ⟨m, rfl⟩ := Int.eq_ofNat_of_zero_le hN0
  have hcd := src_code h
  by_cases hz : m = 0
  · subst hz
    have hcv := fun W => conv_emptyd w.heap.size W
    go_enter Try.func93, Try.ntmps93
    go_wp2
    go_loop [5, 6] (fun v i => v = .slice (some ⟨w.heap.size, 0, none⟩) 0 0 ∧ i = .int .i64 0) (fun _ _ => 0)
    case atStart => exact ⟨rfl, rfl⟩
    case round =>
      obtain ⟨rfl, rfl⟩ := hrel
      go_wp2
      go_ret
      exact ⟨ByteArray.empty, rfl, rfl, src_below h ((Below.refl _ _).alloc (Nat.le_refl _) _), grown_alloc (World.grownBy.refl _ _) _⟩
  · go_enter Try.func93, Try.ntmps93
    go_wp2
    go_loopw [5, 6] (fun v i wr => ∃ (k : Nat) (l : List UInt8), k ≤ m ∧ i = .int .i64 k ∧ wr.ownsRow w.heap.size 5 1 v k (Nm.bys l) ∧ Src wr g a n cap ∧ w.grownBy wr (some g))
      (fun _ i _ => m - (intOf i).toNat)
    case atStart => exact ⟨0, [], Nat.zero_le _, rfl, World.ownsRow_made w #[] 0 (Nat.le_refl _) (by decide) rfl, src_below h ((Below.refl _ _).alloc (Nat.le_refl _) _), grown_alloc (World.grownBy.refl _ _) _⟩
    case round =>
      obtain ⟨k, l, hk, rfl, hown, hsrc, hgr⟩ := hrel
      have hsz := hgr.size
      clear h
      by_cases hlt : k < m
      · go_wp2_with (first | (go_at_call 73; refine (l01Next_any g a n cap 256 _ hsrc (by decide)).mono ?_; rintro e w3 ⟨r, rfl, hr0, hr1, hsrc3, hgr3⟩; have hr2 := hr1 (by decide); obtain ⟨c, hc⟩ := byte_of_int hr0 hr2; subst hc; have hown3 := hown.kept hgr3 (row_src hown hsrc (by decide)); have hg3 := grown_step hgr hgr3; have hsz3 := hg3.size; clear hr1) | (at_builtin; refine wpList_append_own _ rfl (.tmp 13) (.tmp 17) 24 rfl w.heap.size 5 j0 (.int .u8 0) 1 1 Try.underlying24 hj k0 k1 k2 rfl (by decide) _ _ _ rfl (hown3.alloc _) ⟨w3.heap.size, 0, none⟩ 1 1 [.int .u8 (c.toNat : Int)] rfl rfl (cell_one_new _ _ _) (Nm.one_cell _ rfl) (by unfold maxLen; omega) (by omega) (by simp; omega) ?_; intro vb wb hown4 hgrow4 hnl4; clear hnl4; have hrow : ∀ q, Value.ownBlock _ = some q → w.heap.size ≤ q := fun q hq => (hown3.lt q hq).1; have hs4 := src_grown (src_below hsrc3 ((Below.refl _ _).alloc (Nat.le_refl _) _)) hgrow4 hrow hcd.2 hcd.1; have hg4 := grown_own (grown_alloc hg3 _) hgrow4 hrow; rw [Nm.bys_mark, ← Nm.bys_append] at hown4; clear hgrow4 hown3))
        go_roundw
        case rel => exact ⟨k + 1, _, by omega, by go_num, hown4, hs4, hg4⟩
        case measure => simp [intOf]; omega
      · have hke : k = m := by omega
        subst hke
        have hll : l.length = k := by have := hown.1; rw [Nm.bys_length] at this; omega
        obtain ⟨g6, cp6, rfl, hcv⟩ := Nm.conv_own (P := Try.prog) Try.underlying24 Try.underlying5 Try.underlying9 hown (by omega)
        have hms := mk_size l
        clear hown hlt
        go_wp2
        go_ret
        exact ⟨_, rfl, by rw [hms]; omega, hsrc, hgr⟩
end Go.Proofs.Ytakonfkefoeenag
