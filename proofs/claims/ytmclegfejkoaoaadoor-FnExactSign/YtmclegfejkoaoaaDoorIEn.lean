import Derived.Test.YtmclegfejkoaoaaDoorJISu
import Derived.Deep.RegionHeld3
/- impl.Sha256: its end. -/
namespace Go.Proofs.YtmclegfejkoaoaaDoor
open Go.RowKit
set_option linter.unusedVariables false

noncomputable def shEnd : Code := sndS (sndS (sndS (sndS (sndS (sndS (((Tryd.f40).body).getD .skip))))))

set_option maxRecDepth 1000000 in
set_option maxHeartbeats 8000000 in
theorem sha_end (K0 : Act → World → Prop) (p2 p3 p6 : Nat) (h32 : p2 < p3) (h63 : p3 < p6) (h : Sv) (A : Array Value) (l t : List UInt8) (a : Option Addr) (cap : Nat) (hl : l.length ≤ 3000000) (hA : spl A 56 (bytesV ⟨(bigL (8 * l.length) 8).toArray⟩) = blA t) (hsA : A.size = 64) (Q0 : Exit → Act → World → Prop) (hk0 : ∀ a w, Code.wp Tryd.prog (sndS shEnd) Q0 a w → K0 a w) (w0 w : World) (hK : KAt w0 1) (hB0 : Hid (p2 = w0.heap.size)) (hbel : Below p2 w0 w)
    (k2 : Blk w p2 (Array.replicate 32 (.int .u8 0)) 41) (k3 : Blk w p3 (hvA h) 73) (k6 : Blk w p6 A 64)
    (s1 s4 s5 s7 s8 s9 s10 s11 s12 s13 s14 s15 s16 s17 s18 s19 s20 s21 s22 s23 s24 s25 s26 s27 s28 s29 s30 s31 s32 s33 s34 s35 s36 s37 s38 s39 s40 s41 s42 : Value)
    (hexit : ∀ (u33 u34 u35 u36 u37 u38 u39 u40 u41 u42 : Value) (w' : World), Blk w' p2 (byA (outL (addSv h (roundsW (fun i => wordAt t (4 * i)) h 64)))) 41 ∧ Below p2 w0 w' → Q0 .ret ⟨(.slice a l.length cap :: s1 :: .pointer (some ⟨p2, 0, none⟩) :: .pointer (some ⟨p3, 0, none⟩) :: s4 :: s5 :: .pointer (some ⟨p6, 0, none⟩) :: s7 :: s8 :: s9 :: s10 :: s11 :: s12 :: s13 :: s14 :: s15 :: s16 :: s17 :: s18 :: s19 :: s20 :: s21 :: s22 :: s23 :: s24 :: s25 :: s26 :: s27 :: s28 :: s29 :: s30 :: s31 :: s32 :: u33 :: u34 :: u35 :: u36 :: u37 :: u38 :: u39 :: u40 :: u41 :: u42 :: []).toArray, []⟩ w') :
    Code.wp Tryd.prog (fstS shEnd) (Exit.then K0 Q0) ⟨(.slice a l.length cap :: s1 :: .pointer (some ⟨p2, 0, none⟩) :: .pointer (some ⟨p3, 0, none⟩) :: s4 :: s5 :: .pointer (some ⟨p6, 0, none⟩) :: s7 :: s8 :: s9 :: s10 :: s11 :: s12 :: s13 :: s14 :: s15 :: s16 :: s17 :: s18 :: s19 :: s20 :: s21 :: s22 :: s23 :: s24 :: s25 :: s26 :: s27 :: s28 :: s29 :: s30 :: s31 :: s32 :: s33 :: s34 :: s35 :: s36 :: s37 :: s38 :: s39 :: s40 :: s41 :: s42 :: []).toArray, []⟩ w := by
  conv => arg 2; whnf
  have hinf8 : (Tryd.prog.info? 73).map (·.size) = some 8 := by kernel_rfl
  have hinf64 : (Tryd.prog.info? 64).map (·.size) = some 64 := by kernel_rfl
  have hinf32 : (Tryd.prog.info? 41).map (·.size) = some 32 := by kernel_rfl
  have HX := Nm.hide hexit
  clear hexit
  have hbb := fun W => bigBytesN_any (8 * l.length) 8 W (by omega) (by decide) (by decide)
  have i0 : (0 : Int) ≤ (l.length : Int) := by omega
  have i1 : (l.length : Int) ≤ 3000000 := by omega
  have q0 : IntKind.i64.wrap (8 * (l.length : Int)) = ((8 * l.length : Nat) : Int) := by rw [Go.wrap_small _ (by omega) (by omega)]; omega
  obtain ⟨E, hE⟩ : ∃ E, 8 * l.length = E := ⟨_, rfl⟩
  rw [hE] at q0 hbb hA
  clear hE
  have hTr : True := trivial
  go_wp2
  refine wp_region_noPanic ?_
  refine wp_region_held_drew (S := fun _ => True) (by kernel_rfl) trivial (fun hHeld => ?_)
  refine wpAnyH_take (i := 0) (v := ?_) rfl (by kernel_rfl) (by kernel_rfl) (by kernel_rfl) (fun _ _ _ h => h) (Or.inl ⟨by rfl, ?_⟩) (by assumption) ?_
  rotate_left 1
  · (intro w hSw; go_simp; try (with_reducible rfl))
  refine wpAnyH_take (i := 1) (v := ?_) rfl (by kernel_rfl) (by kernel_rfl) (by kernel_rfl) (fun _ _ _ h => h) (Or.inl ⟨by rfl, ?_⟩) (by assumption) ?_
  rotate_left 1
  · (intro w hSw; go_simp; try (with_reducible rfl))
  refine wpAnyH_take (i := 2) (v := ?_) rfl (by kernel_rfl) (by kernel_rfl) (by kernel_rfl) (fun _ _ _ h => h) (Or.inl ⟨by rfl, ?_⟩) (by assumption) ?_
  rotate_left 1
  · (intro w hSw; go_simp; try (with_reducible rfl))
  refine wpAnyH_take (i := 3) (v := ?_) rfl (by kernel_rfl) (by kernel_rfl) (by kernel_rfl) (fun _ _ _ h => h) (Or.inl ⟨by rfl, ?_⟩) (by assumption) ?_
  rotate_left 1
  · (intro w hSw; go_simp; try (with_reducible rfl))
  refine wpAnyH_ready (rs := [4]) (by kernel_rfl) (by simp) ?_
  refine AllReadyH.cons rfl (fun K hK' => ?_) AllReadyH.nil
  go_simp
  refine (hbb _).mono ?_
  rintro e w3 ⟨rfl, hb3⟩
  have hbd : Below w.heap.size w w3 := (Below.refl _ w).drew.trans hb3
  have k23 := blk_below k2 hbd
  have k33 := blk_below k3 hbd
  have k63 := blk_below k6 hbd
  have hl2 := blk_lt k2
  have hB3 : Below p2 w0 w3 := hbel.trans (hbd.mono (Nat.le_of_lt hl2))
  have hs3 := hbd.size
  clear hbd hb3 k2 k3 k6 hbel
  go_wp2_with fail
  refine hK'.out _ _ trivial (fun _ => ?_)
  clear hK' K
  refine wpAnyH_ready (rs := [5]) (by kernel_rfl) (by simp) ?_
  refine AllReadyH.cons rfl (fun K hK' => ?_) AllReadyH.nil
  refine step_copy_str rfl (.tmp 33) (.tmp 37) 22 9 rfl 5 Tryd.underlying22 (by kernel_rfl) p6 56 8 8 (by go_simp) ⟨(bigL E 8).toArray⟩ (by go_simp) _ _ k63 (by show 8 ≤ 8; decide) (by rw [hsA]; show 56 + 8 ≤ 64; decide) ?_
  intro w4 k64 o4
  rw [hA] at k64
  have k24 := o4.blk k23 (by omega)
  have k34 := o4.blk k33 (by omega)
  have hB4 := o4.below hB3 (by omega) (by omega)
  have hs4 := o4.size
  refine hK'.out _ _ trivial (fun _ => ?_)
  clear hK' K o4 k23 k33 k63 hB3
  refine wpAnyH_done (by kernel_rfl) ?_ _
  refine NoPanic.normal ?_
  have hgo : ∀ (K : Act → World → Prop) (Q : Exit → Act → World → Prop) a w, K a w → Exit.then K Q .normal a w := fun _ _ _ _ h => h
  refine hgo _ _ _ _ ?_
  refine hk0 _ _ ?_
  clear hk0 hgo
  conv => arg 2; whnf
  have hKw : ∀ W, Below p2 w0 W → KAt W 1 := fun W hW => hK.below (by rw [← hB0.out]; exact hW)
  have htk := fun W hW => take_any h t W hW
  generalize addSv h (roundsW (fun i => wordAt t (4 * i)) h 64) = hh at *
  have hinfB : (Tryd.prog.info? 41).map (·.size) = some (byA (outL hh)).size := by rw [byA_size]; exact hinf32
  go_wp2_with (first
    | (refine wpList_load_blk (.tmp 3) 73 rfl rfl p3 _ _ k34 rfl Tryd.underlying73 rfl (by rw [hvA_size]; exact hinf8) ?_)
    | (refine wpList_load_blk (.tmp 6) 64 rfl rfl p6 _ _ k64 rfl Tryd.underlying64 rfl (by rw [blA_size]; exact hinf64) ?_)
    | (go_at_call 46; refine (htk _ (hKw _ hB4)).mono ?_; rintro e w5 ⟨rfl, hb5⟩; have k25 := blk_below k24 hb5; have hB5 := hB4.trans (hb5.mono (Nat.le_of_lt (blk_lt k24))))
    | (go_at_call 47; refine (sum_any hh _).mono ?_; rintro e w6 ⟨rfl, hb6⟩; have k26 := blk_below k25 hb6; have hB6 := hB5.trans (hb6.mono (Nat.le_of_lt (blk_lt k25))))
    | (refine wpList_store_blk (.tmp 2) (.tmp 42) 41 rfl rfl rfl p2 _ _ k26 rfl rfl hinfB (by rw [byA_size, outL_len]; simp) (byA_one _) ?_; intro w7 k7 o7; have hB7 := o7.below hB6 (Nat.le_refl _) (Nat.le_of_lt (blk_lt k26))))
  exact HX.out _ _ _ _ _ _ _ _ _ _ _ ⟨k7, hB7⟩
end Go.Proofs.YtmclegfejkoaoaaDoor
