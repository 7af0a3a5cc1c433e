import Derived.Test.YtfficbpalibmoaaGreatDoorJOwnT
import Derived.Test.YtfficbpalibmoaaGreatDoorJITk
import Derived.Test.YtfficbpalibmoaaGreatDoorJIWo
import Derived.Deep.RegionHeld3
/- (impl.state).sum by its contract. -/
namespace Go.Proofs.YtfficbpalibmoaaGreatDoor
open Go.RowKit
set_option linter.unusedVariables false

theorem ouA_size (l : List UInt8) (i : Nat) : (ouA l i).size = 32 := by simp [ouA]
theorem big4 (x : Nat) : bigL x 4 = [UInt8.ofNat (x / 2 ^ 24), UInt8.ofNat (x / 2 ^ 16), UInt8.ofNat (x / 2 ^ 8), UInt8.ofNat (x / 2 ^ 0)] := rfl
theorem ouA_four (s : Sv) {k : Nat} (h : k < 8) : spl (ouA (outL s) (4 * k)) (4 * k) (bytesV ⟨(bigL (((svL s)[k]?).getD 0).toNat 4).toArray⟩) = ouA (outL s) (4 * (k + 1)) := by
  have e : ∀ i, i < 4 → ((outL s)[4 * k + i]?).getD 0 = UInt8.ofNat ((((svL s)[k]?).getD 0).toNat / 2 ^ (24 - 8 * i)) := by
    intro i hi
    rw [outL_at s (by omega), show (4 * k + i) / 4 = k by omega, show (4 * k + i) % 4 = i by omega]
  rw [big4]
  show spl _ _ [.int .u8 ((UInt8.ofNat ((((svL s)[k]?).getD 0).toNat / 2 ^ 24)).toNat : Int), .int .u8 ((UInt8.ofNat ((((svL s)[k]?).getD 0).toNat / 2 ^ 16)).toNat : Int), .int .u8 ((UInt8.ofNat ((((svL s)[k]?).getD 0).toNat / 2 ^ 8)).toNat : Int), .int .u8 ((UInt8.ofNat ((((svL s)[k]?).getD 0).toNat / 2 ^ 0)).toNat : Int)] = _
  rw [← e 0 (by omega), ← e 1 (by omega), ← e 2 (by omega), ← e 3 (by omega)]
  simp only [spl, Nat.add_zero]
  rw [ouA_set (by omega), ouA_set (by omega), show 4 * k + 1 + 1 = 4 * k + 2 by omega, ouA_set (by omega), show 4 * k + 2 + 1 = 4 * k + 3 by omega, ouA_set (by omega), show 4 * (k + 1) = 4 * k + 3 + 1 by omega]

set_option maxRecDepth 100000 in
set_option maxHeartbeats 8000000 in
theorem sum_any (s : Sv) (w : World) :
    Calls Tryz.prog 98 #[.agg (hvA s)] w fun e w' => e = .returned (.agg (byA (outL s))) ∧ Below w.heap.size w w' := by
  have hz32 : ∀ W, (zeroValue 66).run Tryz.prog W = .ok (.agg (Array.replicate 32 (.int .u8 0))) W := by
    have := zero_of_info (P := Tryz.prog) (t := 66) (v := .agg (Array.replicate 32 (.int .u8 0))) (n := 32) (by kernel_rfl)
    exact this.1
  have hinfA : (Tryz.prog.info? 138).map (·.size) = some (hvA s).size := by rw [hvA_size]; kernel_rfl
  have hinf32 : (Tryz.prog.info? 66).map (·.size) = some 32 := by kernel_rfl
  obtain ⟨W0, hW0⟩ : ∃ W0, W0 = ((w.alloc (.cells (hvA s) 138)).alloc (.cells (Array.replicate 32 (.int .u8 0)) 66)).alloc (.cells (Array.replicate 32 (.int .u8 0)) 66) := ⟨_, rfl⟩
  have kA : Blk (((w.alloc (.cells (hvA s) 138)).alloc (.cells (Array.replicate 32 (.int .u8 0)) 66)).alloc (.cells (Array.replicate 32 (.int .u8 0)) 66)) w.heap.size (hvA s) 138 := blk_alloc (blk_alloc (blk_new _ _ _) _) _
  have b2 : Blk W0 (w.heap.size + 1) (Array.replicate 32 (.int .u8 0)) 66 := by
    have h := blk_new (w.alloc (.cells (hvA s) 138)) (Array.replicate 32 (.int .u8 0)) 66
    rw [World.size_alloc] at h
    rw [hW0]; exact blk_alloc h _
  have b3 : Blk W0 (w.heap.size + 2) (ouA (outL s) 0) 66 := by
    have h := blk_new ((w.alloc (.cells (hvA s) 138)).alloc (.cells (Array.replicate 32 (.int .u8 0)) 66)) (Array.replicate 32 (.int .u8 0)) 66
    rw [World.size_alloc, World.size_alloc] at h
    rw [hW0, ouA_zero]; exact h
  have hB : Below w.heap.size w W0 := by
    have h1 := (Below.refl w.heap.size w).alloc (Nat.le_refl _) (.cells (hvA s) 138)
    have h2 := h1.alloc h1.size (.cells (Array.replicate 32 (.int .u8 0)) 66)
    rw [hW0]; exact h2.alloc h2.size _
  have hsz := hB.size
  go_enter Tryz.func98, Tryz.ntmps98
  go_wp2_with (refine wpList_load_blk (.tmp 1) 138 rfl rfl w.heap.size _ _ kA rfl Tryz.underlying138 rfl hinfA ?_)
  rw [← hW0]
  have HW := Nm.hide hW0
  clear hW0 kA
  generalize hp1 : w.heap.size = p1 at *
  have HP1 := Nm.hide hp1
  clear hp1
  go_loopw [7] (fun i wr => ∃ k : Nat, k ≤ 8 ∧ i = .int .i64 k ∧ Blk wr (p1 + 2) (ouA (outL s) (4 * k)) 66 ∧ Only (p1 + 2) W0 wr) (fun i _ => 8 - (intOf i).toNat)
  case atStart => exact ⟨0, by omega, rfl, b3, Only.refl _ _⟩
  case round =>
    obtain ⟨k, hk, rfl, kk, hO⟩ := hrel
    clear b3
    by_cases hlt : k < 8
    · have i1 : (0 : Int) ≤ (k : Int) := by omega
      have i2 : (k : Int) < 8 := by omega
      obtain ⟨ui, hui, hus⟩ := info_one (P := Tryz.prog) (e := 124) (by kernel_rfl)
      have hix := fun W => run_index_arr (P := Tryz.prog) (W := W) Tryz.underlying138 Tryz.underlying124 hui hus hlt (hvA_at s hlt)
      have H4 := Nm.hide (ouA_four s hlt)
      have HS := Nm.hide (ouA_size (outL s) (4 * k))
      obtain ⟨x, hx⟩ : ∃ x : Nat, (((svL s)[k]?).getD 0).toNat = x := ⟨_, rfl⟩
      have hx32 : x < 4294967296 := by rw [← hx]; exact (((svL s)[k]?).getD 0).isLt
      rw [hx] at hix
      have H4' := Nm.hide (show spl (ouA (outL s) (4 * k)) (4 * k) (bytesV ⟨(bigL x 4).toArray⟩) = ouA (outL s) (4 * (k + 1)) by rw [← hx]; exact H4.out)
      clear hx H4
      have hbb := fun W => bigBytesN_any x 4 W (by omega) (by decide) (by decide)
      have hTr : True := trivial
      obtain ⟨K4, hK4⟩ : ∃ K4, 4 * k = K4 := ⟨_, rfl⟩
      have q0 : IntKind.i64.wrap (4 * (k : Int)) = (K4 : Int) := by rw [Go.wrap_small _ (by omega) (by omega)]; omega
      have qx : IntKind.i64.wrap (x : Int) = (x : Int) := Go.wrap_small _ (by omega) (by omega)
      have z0 : (0 : Int) ≤ (K4 : Int) := by omega
      have z1 : (K4 : Int) ≤ 32 := by omega
      have z2 : (K4 : Int) < 32 := by omega
      rw [hK4] at kk HS H4'
      have HK4 := Nm.hide hK4
      clear hK4
      go_wp2
      refine wp_region_held_drew (S := fun _ => True) (by kernel_rfl) trivial (fun hHeld => ?_)
      refine wpAnyH_take (i := 0) (v := ?_) rfl (by kernel_rfl) (by kernel_rfl) (by kernel_rfl) (fun _ _ _ h => h) (Or.inl ⟨by rfl, ?_⟩) (by assumption) ?_
      rotate_left 1
      · (intro w hSw; go_simp; try (with_reducible rfl))
      refine wpAnyH_take (i := 1) (v := ?_) rfl (by kernel_rfl) (by kernel_rfl) (by kernel_rfl) (fun _ _ _ h => h) (Or.inl ⟨by rfl, ?_⟩) (by assumption) ?_
      rotate_left 1
      · (intro w hSw; go_simp; try (with_reducible rfl))
      refine wpAnyH_take (i := 2) (v := ?_) rfl (by kernel_rfl) (by kernel_rfl) (by kernel_rfl) (fun _ _ _ h => h) (Or.inl ⟨by rfl, ?_⟩) (by assumption) ?_
      rotate_left 1
      · (intro w hSw; go_simp; try (with_reducible rfl))
      refine wpAnyH_take (i := 3) (v := ?_) rfl (by kernel_rfl) (by kernel_rfl) (by kernel_rfl) (fun _ _ _ h => h) (Or.inl ⟨by rfl, ?_⟩) (by assumption) ?_
      rotate_left 1
      · (intro w hSw; go_simp; try (with_reducible rfl))
      refine wpAnyH_take (i := 4) (v := ?_) rfl (by kernel_rfl) (by kernel_rfl) (by kernel_rfl) (fun _ _ _ h => h) (Or.inl ⟨by rfl, ?_⟩) (by assumption) ?_
      rotate_left 1
      · (intro w hSw; go_simp; try (with_reducible rfl))
      refine wpAnyH_ready (rs := [5]) (by kernel_rfl) (by simp) ?_
      refine AllReadyH.cons rfl (fun K hK => ?_) AllReadyH.nil
      go_simp
      refine (hbb _).mono ?_
      rintro e w3 ⟨rfl, hb3⟩
      have hbd : Below wr.heap.size wr w3 := (Below.refl _ wr).drew.trans hb3
      have kk3 := blk_below kk hbd
      have hO3 := hO.more hbd
      rw [if_neg (show ¬ 32 = K4 by omega)]
      go_wp2_with fail
      refine hK.out _ _ trivial (fun _ => ?_)
      clear hK K hb3 hbd
      refine wpAnyH_ready (rs := [6]) (by kernel_rfl) (by simp) ?_
      refine AllReadyH.cons rfl (fun K hK => ?_) AllReadyH.nil
      refine step_copy_str rfl (.tmp 13) (.tmp 16) 22 9 rfl 5 Tryz.underlying22 (by kernel_rfl) (p1 + 2) K4 (32 - K4) (32 - K4) (by go_simp) ⟨(bigL x 4).toArray⟩ (by go_simp) _ _ kk3 (by show 4 ≤ _; have := HK4.out; omega) (by rw [HS.out]; show K4 + 4 ≤ 32; have := HK4.out; omega) ?_
      intro w4 k4 o4
      rw [H4'.out] at k4
      refine hK.out _ _ trivial (fun _ => ?_)
      clear hK K
      have hO4 := hO3.then o4 (.inl rfl)
      clear o4 hO3 kk3
      refine wpAnyH_done (by kernel_rfl) ?_ _
      go_wp2
      go_roundw
      case rel => exact ⟨k + 1, by omega, by go_num, k4, hO4⟩
      case measure => simp [intOf]; omega
    · obtain rfl : k = 8 := by omega
      rw [show ((8 : Nat) : Int) = 8 from rfl]
      rw [show 4 * 8 = 32 from rfl, ouA_byA] at kk
      have b2' := hO.blk b2 (by omega)
      have hinfB : (Tryz.prog.info? 66).map (·.size) = some (byA (outL s)).size := by rw [byA_size]; exact hinf32
      go_wp2_with (first
        | (refine wpList_load_blk (.tmp 3) 66 rfl rfl (p1 + 2) _ _ kk rfl Tryz.underlying66 rfl hinfB ?_)
        | (refine wpList_store_blk (.tmp 2) (.tmp 19) 66 rfl rfl rfl (p1 + 1) _ _ b2' rfl rfl hinfB (by rw [byA_size, outL_len]; simp) (byA_one _) ?_; intro w9 k9 o9))
      have hb := o9.below (hO.below hB (by omega) hsz) (by omega) (Nat.le_trans hsz hO.size)
      exact bodyPost_ret (v := .agg _) (run_results_cell Tryz.results98 rfl k9 Tryz.underlying66 hinfB) rfl ⟨rfl, by rw [HP1.out]; exact hb⟩
end Go.Proofs.YtfficbpalibmoaaGreatDoor
/- impl.Sha256: its end. -/
namespace Go.Proofs.YtfficbpalibmoaaGreatDoor
open Go.RowKit
set_option linter.unusedVariables false

noncomputable def shEnd : Code := sndS (sndS (sndS (sndS (sndS (sndS (((Tryz.f89).body).getD .skip))))))

set_option maxRecDepth 1000000 in
set_option maxHeartbeats 8000000 in
theorem sha_end (K0 : Act → World → Prop) (p2 p3 p6 : Nat) (h32 : p2 < p3) (h63 : p3 < p6) (h : Sv) (A : Array Value) (l t : List UInt8) (a : Option Addr) (cap : Nat) (hl : l.length ≤ 3000000) (hA : spl A 56 (bytesV ⟨(bigL (8 * l.length) 8).toArray⟩) = blA t) (hsA : A.size = 64) (Q0 : Exit → Act → World → Prop) (hk0 : ∀ a w, Code.wp Tryz.prog (sndS shEnd) Q0 a w → K0 a w) (w0 w : World) (hK : KAt w0 1) (hB0 : Hid (p2 = w0.heap.size)) (hbel : Below p2 w0 w)
    (k2 : Blk w p2 (Array.replicate 32 (.int .u8 0)) 66) (k3 : Blk w p3 (hvA h) 138) (k6 : Blk w p6 A 133)
    (s1 s4 s5 s7 s8 s9 s10 s11 s12 s13 s14 s15 s16 s17 s18 s19 s20 s21 s22 s23 s24 s25 s26 s27 s28 s29 s30 s31 s32 s33 s34 s35 s36 s37 s38 s39 s40 s41 s42 : Value)
    (hexit : ∀ (u33 u34 u35 u36 u37 u38 u39 u40 u41 u42 : Value) (w' : World), Blk w' p2 (byA (outL (addSv h (roundsW (fun i => wordAt t (4 * i)) h 64)))) 66 ∧ Below p2 w0 w' → Q0 .ret ⟨(.slice a l.length cap :: s1 :: .pointer (some ⟨p2, 0, none⟩) :: .pointer (some ⟨p3, 0, none⟩) :: s4 :: s5 :: .pointer (some ⟨p6, 0, none⟩) :: s7 :: s8 :: s9 :: s10 :: s11 :: s12 :: s13 :: s14 :: s15 :: s16 :: s17 :: s18 :: s19 :: s20 :: s21 :: s22 :: s23 :: s24 :: s25 :: s26 :: s27 :: s28 :: s29 :: s30 :: s31 :: s32 :: u33 :: u34 :: u35 :: u36 :: u37 :: u38 :: u39 :: u40 :: u41 :: u42 :: []).toArray, []⟩ w') :
    Code.wp Tryz.prog (fstS shEnd) (Exit.then K0 Q0) ⟨(.slice a l.length cap :: s1 :: .pointer (some ⟨p2, 0, none⟩) :: .pointer (some ⟨p3, 0, none⟩) :: s4 :: s5 :: .pointer (some ⟨p6, 0, none⟩) :: s7 :: s8 :: s9 :: s10 :: s11 :: s12 :: s13 :: s14 :: s15 :: s16 :: s17 :: s18 :: s19 :: s20 :: s21 :: s22 :: s23 :: s24 :: s25 :: s26 :: s27 :: s28 :: s29 :: s30 :: s31 :: s32 :: s33 :: s34 :: s35 :: s36 :: s37 :: s38 :: s39 :: s40 :: s41 :: s42 :: []).toArray, []⟩ w := by
  conv => arg 2; whnf
  have hinf8 : (Tryz.prog.info? 138).map (·.size) = some 8 := by kernel_rfl
  have hinf64 : (Tryz.prog.info? 133).map (·.size) = some 64 := by kernel_rfl
  have hinf32 : (Tryz.prog.info? 66).map (·.size) = some 32 := by kernel_rfl
  have HX := Nm.hide hexit
  clear hexit
  have hbb := fun W => bigBytesN_any (8 * l.length) 8 W (by omega) (by decide) (by decide)
  have i0 : (0 : Int) ≤ (l.length : Int) := by omega
  have i1 : (l.length : Int) ≤ 3000000 := by omega
  have q0 : IntKind.i64.wrap (8 * (l.length : Int)) = ((8 * l.length : Nat) : Int) := by rw [Go.wrap_small _ (by omega) (by omega)]; omega
  obtain ⟨E, hE⟩ : ∃ E, 8 * l.length = E := ⟨_, rfl⟩
  rw [hE] at q0 hbb hA
  clear hE
  have hTr : True := trivial
  go_wp2
  refine wp_region_noPanic ?_
  refine wp_region_held_drew (S := fun _ => True) (by kernel_rfl) trivial (fun hHeld => ?_)
  refine wpAnyH_take (i := 0) (v := ?_) rfl (by kernel_rfl) (by kernel_rfl) (by kernel_rfl) (fun _ _ _ h => h) (Or.inl ⟨by rfl, ?_⟩) (by assumption) ?_
  rotate_left 1
  · (intro w hSw; go_simp; try (with_reducible rfl))
  refine wpAnyH_take (i := 1) (v := ?_) rfl (by kernel_rfl) (by kernel_rfl) (by kernel_rfl) (fun _ _ _ h => h) (Or.inl ⟨by rfl, ?_⟩) (by assumption) ?_
  rotate_left 1
  · (intro w hSw; go_simp; try (with_reducible rfl))
  refine wpAnyH_take (i := 2) (v := ?_) rfl (by kernel_rfl) (by kernel_rfl) (by kernel_rfl) (fun _ _ _ h => h) (Or.inl ⟨by rfl, ?_⟩) (by assumption) ?_
  rotate_left 1
  · (intro w hSw; go_simp; try (with_reducible rfl))
  refine wpAnyH_take (i := 3) (v := ?_) rfl (by kernel_rfl) (by kernel_rfl) (by kernel_rfl) (fun _ _ _ h => h) (Or.inl ⟨by rfl, ?_⟩) (by assumption) ?_
  rotate_left 1
  · (intro w hSw; go_simp; try (with_reducible rfl))
  refine wpAnyH_ready (rs := [4]) (by kernel_rfl) (by simp) ?_
  refine AllReadyH.cons rfl (fun K hK' => ?_) AllReadyH.nil
  go_simp
  refine (hbb _).mono ?_
  rintro e w3 ⟨rfl, hb3⟩
  have hbd : Below w.heap.size w w3 := (Below.refl _ w).drew.trans hb3
  have k23 := blk_below k2 hbd
  have k33 := blk_below k3 hbd
  have k63 := blk_below k6 hbd
  have hl2 := blk_lt k2
  have hB3 : Below p2 w0 w3 := hbel.trans (hbd.mono (Nat.le_of_lt hl2))
  have hs3 := hbd.size
  clear hbd hb3 k2 k3 k6 hbel
  go_wp2_with fail
  refine hK'.out _ _ trivial (fun _ => ?_)
  clear hK' K
  refine wpAnyH_ready (rs := [5]) (by kernel_rfl) (by simp) ?_
  refine AllReadyH.cons rfl (fun K hK' => ?_) AllReadyH.nil
  refine step_copy_str rfl (.tmp 33) (.tmp 37) 22 9 rfl 5 Tryz.underlying22 (by kernel_rfl) p6 56 8 8 (by go_simp) ⟨(bigL E 8).toArray⟩ (by go_simp) _ _ k63 (by show 8 ≤ 8; decide) (by rw [hsA]; show 56 + 8 ≤ 64; decide) ?_
  intro w4 k64 o4
  rw [hA] at k64
  have k24 := o4.blk k23 (by omega)
  have k34 := o4.blk k33 (by omega)
  have hB4 := o4.below hB3 (by omega) (by omega)
  have hs4 := o4.size
  refine hK'.out _ _ trivial (fun _ => ?_)
  clear hK' K o4 k23 k33 k63 hB3
  refine wpAnyH_done (by kernel_rfl) ?_ _
  refine NoPanic.normal ?_
  have hgo : ∀ (K : Act → World → Prop) (Q : Exit → Act → World → Prop) a w, K a w → Exit.then K Q .normal a w := fun _ _ _ _ h => h
  refine hgo _ _ _ _ ?_
  refine hk0 _ _ ?_
  clear hk0 hgo
  conv => arg 2; whnf
  have hKw : ∀ W, Below p2 w0 W → KAt W 1 := fun W hW => hK.below (by rw [← hB0.out]; exact hW)
  have htk := fun W hW => stTake_any h t W hW
  generalize addSv h (roundsW (fun i => wordAt t (4 * i)) h 64) = hh at *
  have hinfB : (Tryz.prog.info? 66).map (·.size) = some (byA (outL hh)).size := by rw [byA_size]; exact hinf32
  go_wp2_with (first
    | (refine wpList_load_blk (.tmp 3) 138 rfl rfl p3 _ _ k34 rfl Tryz.underlying138 rfl (by rw [hvA_size]; exact hinf8) ?_)
    | (refine wpList_load_blk (.tmp 6) 133 rfl rfl p6 _ _ k64 rfl Tryz.underlying133 rfl (by rw [blA_size]; exact hinf64) ?_)
    | (go_at_call 97; refine (htk _ (hKw _ hB4)).mono ?_; rintro e w5 ⟨rfl, hb5⟩; have k25 := blk_below k24 hb5; have hB5 := hB4.trans (hb5.mono (Nat.le_of_lt (blk_lt k24))))
    | (go_at_call 98; refine (sum_any hh _).mono ?_; rintro e w6 ⟨rfl, hb6⟩; have k26 := blk_below k25 hb6; have hB6 := hB5.trans (hb6.mono (Nat.le_of_lt (blk_lt k25))))
    | (refine wpList_store_blk (.tmp 2) (.tmp 42) 66 rfl rfl rfl p2 _ _ k26 rfl rfl hinfB (by rw [byA_size, outL_len]; simp) (byA_one _) ?_; intro w7 k7 o7; have hB7 := o7.below hB6 (Nat.le_refl _) (Nat.le_of_lt (blk_lt k26))))
  exact HX.out _ _ _ _ _ _ _ _ _ _ _ ⟨k7, hB7⟩
end Go.Proofs.YtfficbpalibmoaaGreatDoor
/- impl.Sha256 by its contract. -/
namespace Go.Proofs.YtfficbpalibmoaaGreatDoor
open Go.RowKit
set_option linter.unusedVariables false

def slLenI : Value → Nat
  | .slice _ k _ => k
  | _ => 0
theorem rep64 : (Array.replicate 64 (Value.int .u8 0)).toList = List.replicate 64 (.int .u8 0) := by simp
theorem bys_one (l : List UInt8) : ∀ v ∈ Nm.bys l, v.oneCell' = true := by
  intro v hv
  simp only [Nm.bys, List.mem_map] at hv
  obtain ⟨c, _, rfl⟩ := hv
  rfl
theorem full_block (l : List UInt8) {n : Nat} (h : 64 * n + 64 ≤ l.length) : (splice (List.replicate 64 (Value.int .u8 0)) 0 (Nm.bys ((l.drop (64 * n)).take 64))).toArray = blA ((padL l).drop (64 * n)) := by
  apply bl_ext
  · simp [splice, Nm.bys]; omega
  · intro j hj
    rw [bW_drop, pad_low l (by omega)]
    have hx : l[64 * n + j]? = some (l[64 * n + j]'(by omega)) := List.getElem?_eq_getElem (by omega)
    have e : (splice (List.replicate 64 (Value.int .u8 0)) 0 (Nm.bys ((l.drop (64 * n)).take 64)))[j]? = (Nm.bys ((l.drop (64 * n)).take 64))[j]? := by
      simp only [splice, List.take_zero, List.nil_append]
      rw [List.getElem?_append_left (by simp [Nm.bys]; omega)]
    rw [e]
    simp only [Nm.bys, List.getElem?_map, List.getElem?_take, hj, if_true, List.getElem?_drop, hx, Option.map_some, bW, b8_nat, Option.getD_some]

theorem sp_at {l : List UInt8} {n : Nat} (h1 : 64 * n ≤ l.length) (h2 : l.length < 64 * n + 64) : (splice (Array.replicate 64 (Value.int .u8 0)).toList 0 (Nm.bys (l.drop (64 * n)))).toArray[l.length - 64 * n]? = some (.int .u8 0) := by
  rw [List.getElem?_toArray]
  simp only [splice, List.take_zero, List.nil_append]
  rw [List.getElem?_append_right (by simp [Nm.bys]), List.getElem?_drop, Array.getElem?_toList, Array.getElem?_replicate, if_pos (by simp [Nm.bys]; omega)]

set_option maxRecDepth 100000 in
set_option maxHeartbeats 8000000 in
theorem implSha256_any (v : Value) (l : List UInt8) (w : World) (h : BySl w v l) (hl : l.length ≤ 3000000) (hF : ∃ t fr, w.heap[0]? = some (.cells (hvA H0) t fr)) (hK : KAt w 1) :
    Calls Tryz.prog 89 #[v] w fun e w' => e = .returned (.agg (byA (shaL l))) ∧ Below w.heap.size w w' := by
  have hz32 : ∀ W, (zeroValue 66).run Tryz.prog W = .ok (.agg (Array.replicate 32 (.int .u8 0))) W := by
    have := zero_of_info (P := Tryz.prog) (t := 66) (v := .agg (Array.replicate 32 (.int .u8 0))) (n := 32) (by kernel_rfl)
    exact this.1
  have hz64 : ∀ W, (zeroValue 133).run Tryz.prog W = .ok (.agg (Array.replicate 64 (.int .u8 0))) W := by
    have := zero_of_info (P := Tryz.prog) (t := 133) (v := .agg (Array.replicate 64 (.int .u8 0))) (n := 64) (by kernel_rfl)
    exact this.1
  have hinf8 : (Tryz.prog.info? 138).map (·.size) = some 8 := by kernel_rfl
  have hinf64 : (Tryz.prog.info? 133).map (·.size) = some 64 := by kernel_rfl
  have hinf32 : (Tryz.prog.info? 66).map (·.size) = some 32 := by kernel_rfl
  obtain ⟨tF, frF, hF⟩ := hF
  have hFl : 0 < w.heap.size := (Array.getElem?_eq_some_iff.1 hF).1
  have hF1 : ∀ Z : Obj, (w.alloc Z).heap[0]? = some (.cells (hvA H0) tF frF) := fun Z => (Below.heap_alloc w Z _ hFl).trans hF
  have kP : ∀ Z Y : Array Value, Blk ((w.alloc (.cells Z 66)).alloc (.cells Y 138)) (w.heap.size + 1) Y 138 := by
    intro Z Y
    have h := blk_new (w.alloc (.cells Z 66)) Y 138
    rw [World.size_alloc] at h
    exact h
  have kR : ∀ Z Y : Array Value, Blk ((w.alloc (.cells Z 66)).alloc (.cells Y 138)) w.heap.size Z 66 := fun Z Y => blk_alloc (blk_new _ _ _) _
  have hBz : ∀ Z Y : Array Value, Below w.heap.size w ((w.alloc (.cells Z 66)).alloc (.cells Y 138)) := by
    intro Z Y
    have h1 := (Below.refl w.heap.size w).alloc (Nat.le_refl _) (.cells Z 66)
    exact h1.alloc h1.size _
  obtain ⟨_, a, cap, rfl, hcap, hmx, hc⟩ := id h
  go_enter Tryz.func89, Tryz.ntmps89
  go_wp2_with (first
    | (refine wpList_load_glob (.global 0) 138 rfl rfl 0 _ _ _ _ _ (hF1 _) rfl Tryz.underlying138 (by rw [hvA_size]; exact hinf8) ?_)
    | (refine wpList_store_blk (.tmp 3) (.tmp 7) 138 rfl rfl rfl (w.heap.size + 1) _ _ (kP _ _) rfl rfl (by rw [hvA_size]; exact hinf8) (by rw [hvA_size]; rfl) (hvA_one _) ?_; intro w1 k3 o3; have k0 := o3.blk (kR _ _) (by omega); have hB1 := o3.below (hBz _ _) (by omega) (hBz _ _).size; clear o3))
  have hs1 := hB1.size
  have hlt3 := blk_lt k3
  clear hc kP kR hBz hF1 hF hcap hmx
  go_loopw [4] (fun u wr => ∃ n : Nat, 64 * n ≤ l.length ∧ BySl w u (l.drop (64 * n)) ∧ Blk wr (w.heap.size + 1) (hvA (hashW (padL l) n)) 138 ∧ Blk wr w.heap.size (Array.replicate 32 (.int .u8 0)) 66 ∧ Below w.heap.size w wr) (fun u _ => slLenI u)
  case atStart => exact ⟨0, by omega, by simpa using h, k3, k0, hB1⟩
  case round =>
    clear k3 k0 hB1 hlt3 hs1
    obtain ⟨n, hn, hu, kk, k0, hbel⟩ := hrel
    obtain ⟨hul, ra, rc, rfl, hrc, hrm, hrd⟩ := hu
    have hlen : (l.drop (64 * n)).length = l.length - 64 * n := by simp
    rw [hlen] at hul hrc hrd ⊢
    obtain ⟨R, hR⟩ : ∃ R, l.length - 64 * n = R := ⟨_, rfl⟩
    rw [hR] at hul hrc hrd ⊢
    have HR := Nm.hide hR
    clear hR hlen
    by_cases hge : 64 ≤ R
    · have i1 : (64 : Int) ≤ (R : Int) := by omega
      obtain ⟨b, off, rfl, hcell⟩ := hrd (by omega)
      have hb : b < w.heap.size := by
        have hx : (l.drop (64 * n))[0]? = some ((l.drop (64 * n))[0]'(by simp; have := HR.out; omega)) := List.getElem?_eq_getElem _
        exact World.block_lt_of_cell? w _ (hcell 0 (.int .u8 (((l.drop (64 * n))[0]'(by simp; have := HR.out; omega)).toNat : Int)) (by simp only [Nm.bys, List.getElem?_map, hx, Option.map_some]))
      have hlw := blk_lt kk
      have knew : ∀ W : World, Blk (W.alloc (.cells (Array.replicate 64 (.int .u8 0)) 133)) W.heap.size (Array.replicate 64 (.int .u8 0)) 133 := fun W => blk_new _ _ _
      have hfb := full_block l (n := n) (by have := HR.out; omega)
      rw [← rep64] at hfb
      have hcs : (Nm.bys ((l.drop (64 * n)).take 64)).length = 64 := by simp [Nm.bys]; have := HR.out; omega
      have hBa := hbel.alloc hbel.size (.cells (Array.replicate 64 (.int .u8 0)) 133)
      have hsrcF : ∀ j x, (Nm.bys ((l.drop (64 * n)).take 64))[j]? = some x → (wr.alloc (.cells (Array.replicate 64 (.int .u8 0)) 133)).cell? ((⟨b, off, none⟩ : Addr).add j) = some x := by
        intro j x hx
        have hadd : (⟨b, off, none⟩ : Addr).add j = ⟨b, off + j, none⟩ := by unfold Addr.add; split <;> simp_all
        rw [hadd]
        refine (hBa.cell (p := ⟨b, off + j, none⟩) hb).trans (hcell j x ?_)
        have hj : j < 64 := by
          have := (List.getElem?_eq_some_iff.1 hx).1
          omega
        simp only [Nm.bys, List.getElem?_map, List.getElem?_take, hj, if_true] at hx ⊢
        exact hx
      have hcl2 : 0 < R - 64 → ∃ b' off', (if rc = 64 then some (⟨b, off, none⟩ : Addr) else some ⟨b, off + 64, none⟩) = some ⟨b', off', none⟩ ∧ ∀ (i : Nat) (x : Value), (Nm.bys (l.drop (64 * (n + 1))))[i]? = some x → w.cell? ⟨b', off' + i, none⟩ = some x := by
        intro h0
        refine ⟨b, off + 64, by rw [if_neg (by omega)], fun i x hx => ?_⟩
        rw [Nat.add_assoc]
        refine hcell (64 + i) x ?_
        simp only [Nm.bys, List.getElem?_map, List.getElem?_drop] at hx ⊢
        rw [show 64 * n + (64 + i) = 64 * (n + 1) + i by omega]
        exact hx
      have hKr := hK.below hbel
      have htk := fun W (hW : KAt W 1) => stTake_any (hashW (padL l) n) ((padL l).drop (64 * n)) W hW
      simp only [hash_step] at htk
      clear hcell
      have hnF : (Nm.bys ((l.drop (64 * n)).take 64)).length = Nat.min R 64 := by rw [hcs]; exact (Nat.min_eq_right hge).symm
      have hsF : 0 < (Nm.bys ((l.drop (64 * n)).take 64)).length → ∃ ad, (some (⟨b, off, none⟩ : Addr)) = some ad ∧ ∀ j x, (Nm.bys ((l.drop (64 * n)).take 64))[j]? = some x → (wr.alloc (.cells (Array.replicate 64 (.int .u8 0)) 133)).cell? (ad.add j) = some x := fun _ => ⟨_, rfl, hsrcF⟩
      have hfF : 0 + (Nm.bys ((l.drop (64 * n)).take 64)).length ≤ (Array.replicate 64 (Value.int .u8 0)).size := by rw [hcs]; simp
      have hcont : ∀ (F : World → Prop), (∀ w2, Blk w2 wr.heap.size (blA ((padL l).drop (64 * n))) 133 → Blk w2 (w.heap.size + 1) (hvA (hashW (padL l) n)) 138 → Blk w2 w.heap.size (Array.replicate 32 (.int .u8 0)) 66 → Below w.heap.size w w2 → F w2) →
          ∀ w2, Blk w2 wr.heap.size (splice (Array.replicate 64 (Value.int .u8 0)).toList 0 (Nm.bys ((l.drop (64 * n)).take 64))).toArray 133 → Only wr.heap.size (wr.alloc (.cells (Array.replicate 64 (.int .u8 0)) 133)) w2 → F w2 := by
        intro F hF2 w2 k2 o2
        rw [hfb] at k2
        exact hF2 w2 k2 (o2.blk (blk_alloc kk _) (Nat.ne_of_lt hlw)) (o2.blk (blk_alloc k0 _) (by omega)) (o2.below hBa hbel.size (by rw [World.size_alloc]; have := hbel.size; omega))
      go_wp2_with (first
        | (refine wpList_copy_blk rfl (.tmp 13) (.tmp 14) 22 22 rfl 5 Tryz.underlying22 (by kernel_rfl) wr.heap.size 0 64 64 (some ⟨b, off, none⟩) R rc rfl rfl _ _ (knew wr) (Nm.bys ((l.drop (64 * n)).take 64)) hnF hsF hfF (bys_one _) ?_; rw [hcs]; refine hcont _ ?_; intro w2 k2 kk2 k02 hB2)
        | (refine wpList_load_blk (.tmp 3) 138 rfl rfl (w.heap.size + 1) _ _ kk2 rfl Tryz.underlying138 rfl (by rw [hvA_size]; exact hinf8) ?_)
        | (refine wpList_load_blk (.tmp 5) 133 rfl rfl wr.heap.size _ _ k2 rfl Tryz.underlying133 rfl (by rw [blA_size]; exact hinf64) ?_)
        | (go_at_call 97; refine (htk _ (hK.below hB2)).mono ?_; rintro e w3 ⟨rfl, hb3⟩; have kk3 := blk_below kk2 hb3; have k03 := blk_below k02 hb3; have hB3 := Nm.below_two hB2 hb3)
        | (refine wpList_store_blk (.tmp 3) (.tmp 19) 138 rfl rfl rfl (w.heap.size + 1) _ _ kk3 rfl rfl (by rw [hvA_size]; exact hinf8) (by rw [hvA_size, hvA_size]) (hvA_one _) ?_; intro w4 k4 o4; have k04 := o4.blk k03 (by omega); have hB4 := o4.below hB3 (by omega) hB3.size))
      have hd2 : (l.drop (64 * (n + 1))).length = R - 64 := by simp; have := HR.out; omega
      go_roundw
      case rel =>
        refine ⟨n + 1, by have := HR.out; omega, ⟨by simp [Nm.bys], _, rc - 64, by rw [hd2], by rw [hd2]; omega, by omega, ?_⟩, k4, k04, hB4⟩
        rw [hd2]
        exact hcl2
      case measure => simp only [slLenI]; omega
    · have hRlt : R < 64 := by omega
      have i1 : (R : Int) < 64 := by omega
      have i0 : (0 : Int) ≤ (R : Int) := by omega
      have i1d : decide ((64 : Int) ≤ (R : Int)) = false := by simp; omega
      have i1n : ¬ (64 : Int) ≤ (R : Int) := by omega
      have hLn : l.length = 64 * n + R := by have := HR.out; omega
      have HLn := Nm.hide hLn
      have hlw := blk_lt kk
      have hBa := hbel.alloc hbel.size (.cells (Array.replicate 64 (.int .u8 0)) 133)
      have knew : Blk (wr.alloc (.cells (Array.replicate 64 (.int .u8 0)) 133)) wr.heap.size (Array.replicate 64 (.int .u8 0)) 133 := blk_new _ _ _
      have hcs : (Nm.bys (l.drop (64 * n))).length = R := by simp [Nm.bys]; omega
      have hnF : (Nm.bys (l.drop (64 * n))).length = Nat.min R 64 := by rw [hcs]; exact (Nat.min_eq_left (by omega)).symm
      have hfF : 0 + (Nm.bys (l.drop (64 * n))).length ≤ (Array.replicate 64 (Value.int .u8 0)).size := by rw [hcs]; simp; omega
      have hsF : 0 < (Nm.bys (l.drop (64 * n))).length → ∃ ad, ra = some ad ∧ ∀ j x, (Nm.bys (l.drop (64 * n)))[j]? = some x → (wr.alloc (.cells (Array.replicate 64 (.int .u8 0)) 133)).cell? (ad.add j) = some x := by
        intro h0
        rw [hcs] at h0
        obtain ⟨b, off, e, hcell⟩ := hrd h0
        refine ⟨⟨b, off, none⟩, e, fun j x hx => ?_⟩
        have hadd : (⟨b, off, none⟩ : Addr).add j = ⟨b, off + j, none⟩ := by unfold Addr.add; split <;> simp_all
        have hc1 := hcell j x hx
        rw [hadd]
        exact (hBa.cell (p := ⟨b, off + j, none⟩) (World.block_lt_of_cell? w _ hc1)).trans hc1
      have hcont : ∀ (F : World → Prop), (∀ w2, w2.cell? ⟨wr.heap.size, R, none⟩ = some (.int .u8 0) → w2.frozen? ⟨wr.heap.size, R, none⟩ = false → Blk (w2.setCell ⟨wr.heap.size, R, none⟩ (.int .u8 128)) wr.heap.size (lastA l n) 133 → Blk (w2.setCell ⟨wr.heap.size, R, none⟩ (.int .u8 128)) (w.heap.size + 1) (hvA (hashW (padL l) n)) 138 →
          Blk (w2.setCell ⟨wr.heap.size, R, none⟩ (.int .u8 128)) w.heap.size (Array.replicate 32 (.int .u8 0)) 66 → Below w.heap.size w (w2.setCell ⟨wr.heap.size, R, none⟩ (.int .u8 128)) → F w2) →
          ∀ w2, Blk w2 wr.heap.size (splice (Array.replicate 64 (Value.int .u8 0)).toList 0 (Nm.bys (l.drop (64 * n)))).toArray 133 → Only wr.heap.size (wr.alloc (.cells (Array.replicate 64 (.int .u8 0)) 133)) w2 → F w2 := by
        intro F hF2 w2 k2 o2
        have hsp := sp_at (l := l) (n := n) (by omega) (by omega)
        have hk := blk_set k2 R (.int .u8 128)
        have eR : l.length - 64 * n = R := by omega
        rw [eR] at hsp
        refine hF2 w2 ((blk_cell k2 R).trans hsp) (blk_frozen k2 R) ?_ (blk_far (o2.blk (blk_alloc kk _) (Nat.ne_of_lt hlw)) (Nat.ne_of_lt hlw)) (blk_far (o2.blk (blk_alloc k0 _) (by omega)) (by omega)) ((o2.below hBa hbel.size (by rw [World.size_alloc]; have := hbel.size; omega)).setCell hbel.size _)
        rw [lastA, eR]
        exact hk
      have hp6 := hbel.size
      clear hrd kk k0 hBa
      by_cases h56 : 56 ≤ R
      · have HB := Nm.hide (blocks_long (l := l) (n := n) (by omega) (by omega))
        have HL := Nm.hide (last_long (l := l) (n := n) (by omega) (by omega) (by omega))
        have HN := Nm.hide (last_next (l := l) (n := n) (by omega) (by omega))
        clear hLn
        have htk := fun W (hW : KAt W 1) => stTake_any (hashW (padL l) n) ((padL l).drop (64 * n)) W hW
        simp only [hash_step] at htk
        rw [HL.out] at hcont
        have i9 : (64 : Int) < (R : Int) + 1 + 8 := by omega
        have i9b : (64 : Int) < (R : Int) + 9 := by omega
        have hinf64r : (Tryz.prog.info? 133).map (·.size) = some (Array.replicate 64 (Value.int .u8 0)).size := by rw [Array.size_replicate]; exact hinf64
        go_wp2_with (first
          | (refine wpList_copy_blk rfl (.tmp 20) (.tmp 21) 22 22 rfl 5 Tryz.underlying22 (by kernel_rfl) wr.heap.size 0 64 64 ra R rc rfl rfl _ _ knew (Nm.bys (l.drop (64 * n))) hnF hsF hfF (bys_one _) ?_; rw [hcs]; refine hcont _ ?_; clear hcont; intro w2 c2 f2 k6 k3 k2 hB2)
          | (refine wpList_load_blk (.tmp 3) 138 rfl rfl (w.heap.size + 1) _ _ k3 rfl Tryz.underlying138 rfl (by rw [hvA_size]; exact hinf8) ?_)
          | (refine wpList_load_blk (.tmp 6) 133 rfl rfl wr.heap.size _ _ k6 rfl Tryz.underlying133 rfl (by rw [blA_size]; exact hinf64) ?_)
          | (go_at_call 97; refine (htk _ (hK.below hB2)).mono ?_; rintro e w3 ⟨rfl, hb3⟩; have k33 := blk_below k3 hb3; have k23 := blk_below k2 hb3; have k63 := blk_below k6 hb3; have hB3 := Nm.below_two hB2 hb3)
          | (refine wpList_store_blk (.tmp 3) (.tmp 31) 138 rfl rfl rfl (w.heap.size + 1) _ _ k33 rfl rfl (by rw [hvA_size]; exact hinf8) (by rw [hvA_size, hvA_size]) (hvA_one _) ?_; intro w4 k34 o4; have k24 := o4.blk k23 (by omega); have k64 := o4.blk k63 (by omega); have hB4 := o4.below hB3 (by omega) hB3.size; clear o4)
          | (refine wpList_store_blk (.tmp 6) (.tmp 32) 133 rfl rfl rfl wr.heap.size _ _ k64 rfl rfl hinf64r (by rw [blA_size]; simp) (all_rep8 64) ?_; intro w5 k65 o5; have k25 := o5.blk k24 (by omega); have k35 := o5.blk k34 (by omega); have hB5 := o5.below hB4 hp6 hB4.size; clear o5))
        refine sha_end _ w.heap.size (w.heap.size + 1) wr.heap.size (by omega) hlw (hashW (padL l) (n + 1)) _ l _ a cap hl HN.out (by simp) _ (by assumption) w _ hK rfl hB5 k25 k35 k65 _ _ _ _ _ _ _ _ _ _ _ _ _ _ _ _ _ _ _ _ _ _ _ _ _ _ _ _ _ _ _ _ _ _ _ _ _ _ _ ?_
        intro u33 u34 u35 u36 u37 u38 u39 u40 u41 u42 w9
        rintro ⟨k9, hB9⟩
        rw [hash_step, ← HB.out] at k9
        exact bodyPost_ret (v := .agg _) (run_results_cell Tryz.results89 rfl k9 Tryz.underlying66 (by rw [byA_size, HB.out]; exact hinf32)) rfl ⟨rfl, hB9⟩
      · have HB := Nm.hide (blocks_short (l := l) (n := n) (by omega) (by omega))
        have HN := Nm.hide (last_short (l := l) (n := n) (by omega) (by omega))
        have HSz := Nm.hide (lastA_size (l := l) (n := n) (by omega))
        clear hLn
        have i9 : ¬ (64 : Int) < (R : Int) + 1 + 8 := by omega
        have i9b : ¬ (64 : Int) < (R : Int) + 9 := by omega
        go_wp2_with (first
          | (refine wpList_copy_blk rfl (.tmp 20) (.tmp 21) 22 22 rfl 5 Tryz.underlying22 (by kernel_rfl) wr.heap.size 0 64 64 ra R rc rfl rfl _ _ knew (Nm.bys (l.drop (64 * n))) hnF hsF hfF (bys_one _) ?_; rw [hcs]; refine hcont _ ?_; clear hcont; intro w2 c2 f2 k6 k3 k2 hB2))
        refine sha_end _ w.heap.size (w.heap.size + 1) wr.heap.size (by omega) hlw (hashW (padL l) n) _ l _ a cap hl HN.out HSz.out _ (by assumption) w _ hK rfl hB2 k2 k3 k6 _ _ _ _ _ _ _ _ _ _ _ _ _ _ _ _ _ _ _ _ _ _ _ _ _ _ _ _ _ _ _ _ _ _ _ _ _ _ _ ?_
        intro u33 u34 u35 u36 u37 u38 u39 u40 u41 u42 w9
        rintro ⟨k9, hB9⟩
        rw [hash_step, ← HB.out] at k9
        exact bodyPost_ret (v := .agg _) (run_results_cell Tryz.results89 rfl k9 Tryz.underlying66 (by rw [byA_size, HB.out]; exact hinf32)) rfl ⟨rfl, hB9⟩
end Go.Proofs.YtfficbpalibmoaaGreatDoor
/- (impl.block).with by its contract. -/
namespace Go.Proofs.YtfficbpalibmoaaGreatDoor
open Go.RowKit
set_option linter.unusedVariables false

theorem u8_xor (x y : UInt8) : bits .xor .u8 (x.toNat : Int) (y.toNat : Int) = ((x ^^^ y).toNat : Int) := by
  have hx : ∀ z : UInt8, BitVec.ofInt 8 (z.toNat : Int) = z.toBitVec := by
    intro z
    rw [BitVec.ofInt_natCast]
    apply BitVec.eq_of_toNat_eq
    rw [BitVec.toNat_ofNat]
    exact Nat.mod_eq_of_lt z.toNat_lt
  show IntKind.u8.wrap ((BitVec.ofInt 8 (x.toNat : Int) ^^^ BitVec.ofInt 8 (y.toNat : Int)).toNat : Int) = _
  rw [hx, hx]
  have e : ((x.toBitVec ^^^ y.toBitVec).toNat : Int) = ((x ^^^ y).toNat : Int) := rfl
  rw [e]
  have h := (x ^^^ y).toNat_lt
  generalize (x ^^^ y).toNat = n at h ⊢
  simp only [IntKind.wrap, IntKind.bits, IntKind.signed]
  simp
  omega
def xoA (l : List UInt8) (m : UInt8) (i : Nat) : List UInt8 := (l.take i).map (· ^^^ m) ++ l.drop i
theorem xoA_zero (l : List UInt8) (m : UInt8) : xoA l m 0 = l := by simp [xoA]
theorem xoA_all (l : List UInt8) (m : UInt8) : xoA l m l.length = l.map (· ^^^ m) := by simp [xoA]
theorem xoA_len (l : List UInt8) (m : UInt8) (i : Nat) : (xoA l m i).length = l.length := by simp [xoA]; omega
theorem xoA_at {l : List UInt8} {m : UInt8} {i : Nat} (h : i < l.length) : (byA (xoA l m i))[i]? = some (.int .u8 ((l[i]).toNat : Int)) := by
  have e : (xoA l m i)[i]? = some l[i] := by
    rw [xoA, List.getElem?_append_right (by simp; omega)]
    simp [List.getElem?_drop]
    rw [show i + (i - min i l.length) = i by omega]
    exact List.getElem?_eq_getElem h
  simp [byA, e]
theorem xoA_set {l : List UInt8} {m : UInt8} {i : Nat} (h : i < l.length) : (byA (xoA l m i)).setIfInBounds i (.int .u8 ((l[i] ^^^ m).toNat : Int)) = byA (xoA l m (i + 1)) := by
  have e : (xoA l m i).set i (l[i] ^^^ m) = xoA l m (i + 1) := by
    apply List.ext_getElem?
    intro j
    rw [List.getElem?_set]
    by_cases hj : i = j
    · subst hj
      rw [if_pos rfl, if_pos (by rw [xoA_len]; exact h), xoA, List.getElem?_append_left (by simp; omega)]
      simp [h]
    · rw [if_neg hj, xoA, xoA]
      by_cases h1 : j < i
      · rw [List.getElem?_append_left (by simp; omega), List.getElem?_append_left (by simp; omega)]
        simp [h1, show j < i + 1 by omega]
      · rw [List.getElem?_append_right (by simp; omega), List.getElem?_append_right (by simp; omega)]
        simp only [List.getElem?_drop, List.length_map, List.length_take]
        congr 1
        omega
  rw [← e]
  simp [byA, List.map_set]

set_option maxRecDepth 100000 in
set_option maxHeartbeats 1600000 in
theorem with_any (l : List UInt8) (hl : l.length = 64) (m : UInt8) (w : World) :
    Calls Tryz.prog 90 #[.agg (byA l), .int .u8 (m.toNat : Int)] w fun e w' => e = .returned (.agg (byA (l.map (· ^^^ m)))) ∧ Below w.heap.size w w' := by
  have hz64 : ∀ W, (zeroValue 133).run Tryz.prog W = .ok (.agg (Array.replicate 64 (.int .u8 0))) W := by
    have := zero_of_info (P := Tryz.prog) (t := 133) (v := .agg (Array.replicate 64 (.int .u8 0))) (n := 64) (by kernel_rfl)
    exact this.1
  have hinf64 : (Tryz.prog.info? 133).map (·.size) = some 64 := by kernel_rfl
  obtain ⟨W0, hW0⟩ : ∃ W0, W0 = (w.alloc (.cells (byA l) 133)).alloc (.cells (Array.replicate 64 (.int .u8 0)) 133) := ⟨_, rfl⟩
  have b1 : Blk W0 w.heap.size (byA (xoA l m 0)) 133 := by rw [hW0, xoA_zero]; exact blk_alloc (blk_new _ _ _) _
  have b2 : Blk W0 (w.heap.size + 1) (Array.replicate 64 (.int .u8 0)) 133 := by
    have h := blk_new (w.alloc (.cells (byA l) 133)) (Array.replicate 64 (.int .u8 0)) 133
    rw [World.size_alloc] at h
    rw [hW0]; exact h
  have hB : Below w.heap.size w W0 := by
    have h1 := (Below.refl w.heap.size w).alloc (Nat.le_refl _) (.cells (byA l) 133)
    rw [hW0]; exact h1.alloc h1.size _
  have HL := Nm.hide hl
  clear hl
  go_enter Tryz.func90, Tryz.ntmps90
  go_wp2
  rw [← hW0]
  clear hW0
  go_loopw [6] (fun i wr => ∃ k : Nat, k ≤ 64 ∧ i = .int .i64 k ∧ Blk wr w.heap.size (byA (xoA l m k)) 133 ∧ Blk wr (w.heap.size + 1) (Array.replicate 64 (.int .u8 0)) 133 ∧ Below w.heap.size w wr) (fun i _ => 64 - (intOf i).toNat)
  case atStart => exact ⟨0, by omega, rfl, b1, b2, hB⟩
  case round =>
    clear b1 b2 hB
    obtain ⟨k, hk, rfl, b1, b2, hB⟩ := hrel
    by_cases hlt : k < 64
    · have i1 : (0 : Int) ≤ (k : Int) := by omega
      have i2 : (k : Int) < 64 := by omega
      have hkl : k < l.length := by rw [HL.out]; exact hlt
      have c1 := (blk_cell b1 k).trans (xoA_at hkl)
      have f1 := blk_frozen b1 k
      have kS := Nm.hide (show Blk (World.setCell _ ⟨w.heap.size, k, none⟩ (.int .u8 ((l[k] ^^^ m).toNat : Int))) w.heap.size (byA (xoA l m (k + 1))) 133 by
        have h := blk_set b1 k (.int .u8 ((l[k] ^^^ m).toNat : Int))
        rw [xoA_set hkl] at h
        exact h)
      have k2S := Nm.hide (blk_far (i := k) (v := .int .u8 ((l[k] ^^^ m).toNat : Int)) b2 (show w.heap.size + 1 ≠ w.heap.size by omega))
      have hBS := Nm.hide (hB.setCell (p := ⟨w.heap.size, k, none⟩) (Nat.le_refl _) (.int .u8 ((l[k] ^^^ m).toNat : Int)))
      generalize l[k] = c at *
      go_wp2
      rw [u8_xor]
      go_roundw
      case rel => exact ⟨k + 1, by omega, by go_num, kS.out, k2S.out, hBS.out⟩
      case measure => simp [intOf]; omega
    · obtain rfl : k = 64 := by omega
      rw [show ((64 : Nat) : Int) = 64 from rfl]
      have e64 : xoA l m 64 = l.map (· ^^^ m) := by rw [← HL.out]; exact xoA_all l m
      rw [e64] at b1
      have hbs : (byA (l.map (· ^^^ m))).size = 64 := by rw [byA_size, List.length_map]; exact HL.out
      have hinfB : (Tryz.prog.info? 133).map (·.size) = some (byA (l.map (· ^^^ m))).size := by rw [hbs]; exact hinf64
      have HBS := Nm.hide hbs
      clear e64 hbs
      have hs := hB.size
      go_wp2_with (first
        | (refine wpList_load_blk (.tmp 2) 133 rfl rfl w.heap.size _ _ b1 rfl Tryz.underlying133 rfl hinfB ?_)
        | (refine wpList_store_blk (.tmp 4) (.tmp 16) 133 rfl rfl rfl (w.heap.size + 1) _ _ b2 rfl rfl hinfB (by rw [HBS.out]; simp) (byA_one _) ?_; intro w9 k9 o9))
      have hb := o9.below hB (by omega) hs
      exact bodyPost_ret (v := .agg _) (run_results_cell Tryz.results90 rfl k9 Tryz.underlying133 hinfB) rfl ⟨rfl, hb⟩
end Go.Proofs.YtfficbpalibmoaaGreatDoor
