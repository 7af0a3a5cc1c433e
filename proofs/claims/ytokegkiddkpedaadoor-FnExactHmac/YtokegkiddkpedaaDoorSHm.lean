/- spec.Hmac by its contract. -/
import Derived.Test.YtokegkiddkpedaaDoorHmM
import Derived.Test.YtokegkiddkpedaaDoorShA
import Derived.Test.YtokegkiddkpedaaDoorSSr
import Derived.Test.YtokegkiddkpedaaDoorIWt
namespace Go.Proofs.YtokegkiddkpedaaDoor
open Go.RowKit
set_option linter.unusedVariables false

theorem row_off {W : World} {B e s m b : Nat} {v : Value} {xs : List Value} {cs : Array Value} {T : TypeId} (h : W.ownsRow B e s v m xs) (hb : Blk W b cs T) (hne : e ≠ T) : v.ownBlock ≠ some b := by
  rcases h.2 with ⟨rfl, _⟩ | ⟨g', cap', cur, rfl, _, hh, _⟩
  · simp [Value.ownBlock]
  · simp only [Value.ownBlock, ne_eq, Option.some.injEq]
    intro e2
    subst e2
    unfold Blk at hb
    rw [hh] at hb
    simp at hb
    exact hne hb.2

theorem two_new (W : World) (B : Nat) (hB : B ≤ W.heap.size) :
    ((W.alloc (.cells #[] 5)).alloc (.cells #[] 5)).ownsRow B 5 1 (.slice (some ⟨W.heap.size, 0, none⟩) 0 0) 0 [] ∧
    ((W.alloc (.cells #[] 5)).alloc (.cells #[] 5)).ownsRow B 5 1 (.slice (some ⟨W.heap.size + 1, 0, none⟩) 0 0) 0 [] ∧
    Apr (.slice (some ⟨W.heap.size, 0, none⟩) 0 0) (.slice (some ⟨W.heap.size + 1, 0, none⟩) 0 0) := by
  have h1 := World.ownsRow_made (base := B) (size := 1) (e := 5) W #[] 0 hB (by decide) rfl
  have h2 := World.ownsRow_made (base := B) (size := 1) (e := 5) (W.alloc (.cells #[] 5)) #[] 0 (by rw [World.size_alloc]; omega) (by decide) rfl
  rw [World.size_alloc] at h2
  refine ⟨h1.alloc _, h2, ?_⟩
  intro k hk hk2
  simp only [Value.ownBlock, Option.some.injEq] at hk hk2
  omega

set_option maxRecDepth 100000 in
set_option maxHeartbeats 3200000 in
theorem specHmac_any (vk vb : Value) (lk lb : List UInt8) (w : World) (hk : BySl w vk lk) (hb : BySl w vb lb) (hlk : lk.length ≤ 1048576) (hlb : lb.length ≤ 2000000) :
    Calls Tryd.prog 4 #[vk, vb] w fun e w' => e = .returned (.agg (byA (hmacL lk lb))) ∧ Below w.heap.size w w' := by
  obtain ⟨j0, hj, k0, k1, k2⟩ := info_parts Tryd.infoBy
  have hz32 : ∀ W, (zeroValue 23).run Tryd.prog W = .ok (.agg (Array.replicate 32 (.int .u8 0))) W := by
    have := zero_of_info (P := Tryd.prog) (t := 23) (v := .agg (Array.replicate 32 (.int .u8 0))) (n := 32) (by kernel_rfl)
    exact this.1
  have kR := blk_new w (Array.replicate 32 (.int .u8 0)) 23
  have hB0 := (Below.refl w.heap.size w).alloc (Nat.le_refl _) (.cells (Array.replicate 32 (.int .u8 0)) 23)
  have hcv := by_str (hk.below hB0)
  have hk0 := hk.below hB0
  obtain ⟨_, ak, ck, rfl, hkc, hkm, hkx⟩ := hk
  obtain ⟨_, ab, cb, rfl, hbc, hbm, hbx⟩ := hb
  by_cases hlong : 64 < lk.length
  · have hl1 : (64 : Int) < (lk.length : Int) := by omega
    have hs32 : (shaL lk).length = 32 := by rw [shaL]; exact outL_len _
    have hsp := specSha256_any _ _ _ hk0 (by omega)
    have hss := fun W => l09Str_any (shaL lk) hs32 W
    obtain ⟨kl, ekl⟩ : ∃ kl, kl = shaL lk := ⟨_, rfl⟩
    have HH := Nm.hide (show hmacL lk lb = shaL ((padK kl).map (· ^^^ 92) ++ shaL ((padK kl).map (· ^^^ 54) ++ lb)) by rw [ekl, hmacL, keyL, if_pos hlong])
    rw [← ekl] at hsp hss hs32
    have hKl : kl.length ≤ 64 := by omega
    obtain ⟨st, est⟩ : ∃ st : ByteArray, st = ⟨kl.toArray⟩ := ⟨_, rfl⟩
    have hsz : st.size = kl.length := by rw [est]; show kl.toArray.size = _; simp
    have hidx : ∀ (k : Nat) (c : UInt8), kl[k]? = some c → ∀ W, (Instr.index 9 (.string st) (.int .i64 (k : Int))).run Tryd.prog W = .ok (.int .u8 (c.toNat : Int)) W := by
      intro k c hc W; rw [est]; exact byte_of kl k c hc W
    rw [← est] at hss
    clear est ekl hs32 hlong hk0
    go_enter Tryd.func4, Tryd.ntmps4
    go_wp2_with fail
    refine hsp.mono ?_
    rintro e w1 ⟨rfl, b1⟩
    go_wp2_with fail
    refine (hss _).mono ?_
    rintro e w2 ⟨rfl, b2⟩
    have kR2 := blk_below (blk_below kR b1) b2
    have hB2 := Nm.below_two (Nm.below_two hB0 b1) b2
    have hlR := blk_lt kR2
    have hT := two_new w2 (w.heap.size + 1) hlR
    obtain ⟨t1, t2, t3⟩ := hT
    have t4 := blk_alloc (blk_alloc kR2 (.cells #[] 5)) (.cells #[] 5)
    have t5 := hB2.alloc hB2.size (.cells #[] 5)
    have t6 := t5.alloc t5.size (.cells #[] 5)
    clear t5 kR hB0 hcv hsp hss kR2 hB2 b1 b2
    go_wp2
    go_loopw [6, 7, 8] (fun u v i wr => ∃ k : Nat, k ≤ 64 ∧ i = .int .i64 k ∧ wr.ownsRow (w.heap.size + 1) 5 1 u k (Nm.bys (((padK kl).take k).map (· ^^^ 54))) ∧ wr.ownsRow (w.heap.size + 1) 5 1 v k (Nm.bys (((padK kl).take k).map (· ^^^ 92))) ∧ Apr u v ∧ Blk wr w.heap.size (Array.replicate 32 (.int .u8 0)) 23 ∧ Below w.heap.size w wr) (fun _ _ i _ => 64 - (intOf i).toNat)
    case atStart => exact ⟨0, by omega, rfl, t1, t2, t3, t4, t6⟩
    case round =>
      clear t1 t2 t3 t4 t6
      obtain ⟨k, hk64, rfl, hu, hv, hap, hkR, hbel⟩ := hrel
      obtain ⟨xa, xc, rfl⟩ := own_sl hu
      obtain ⟨ya, yc, rfl⟩ := own_sl hv
      have hlw := blk_lt hkR
      have hrowu : ∀ q, Value.ownBlock (.slice xa k xc) = some q → w.heap.size ≤ q := fun q hq => by have := (hu.lt q hq).1; omega
      have hrowv : ∀ q, Value.ownBlock (.slice ya k yc) = some q → w.heap.size ≤ q := fun q hq => by have := (hv.lt q hq).1; omega
      have i1 : (0 : Int) ≤ (k : Int) := by omega
      by_cases hlt : k < 64
      · have i2 : (k : Int) < 64 := by omega
        by_cases hin : k < kl.length
        · obtain ⟨c, hc⟩ : ∃ c, kl[k]? = some c := ⟨_, List.getElem?_eq_getElem hin⟩
          have i3 : (k : Int) < (st.size : Int) := by omega
          have hi := hidx k c hc
          have HT1 := Nm.hide (mix_take (m := 54) ((padK_at hin).trans hc))
          have HT2 := Nm.hide (mix_take (m := 92) ((padK_at hin).trans hc))
          have hx1 : bits .xor .u8 (c.toNat : Int) 54 = ((c ^^^ 54).toNat : Int) := u8_xor c 54
          have hx2 : bits .xor .u8 (c.toNat : Int) 92 = ((c ^^^ 92).toNat : Int) := u8_xor c 92
          generalize c ^^^ 54 = d1 at *
          generalize c ^^^ 92 = d2 at *
          clear hidx hsz hc
          go_wp2_with (first | (at_builtin; refine wpList_append_own_at _ rfl (.tmp 34) (.tmp 37) 22 rfl (w.heap.size + 1) 5 j0 (.int .u8 0) 1 1 Tryd.underlying22 hj k0 k1 k2 rfl (by decide) _ _ _ rfl (hu.alloc _) ⟨wr.heap.size, 0, none⟩ 1 1 [.int .u8 (d1.toNat : Int)] rfl rfl (cell_one_new _ _ _) (Nm.one_cell _ rfl) (by unfold maxLen; omega) (by omega) (by simp; omega) ?_; intro vb1 wb1 hu1 hg1 hn1 hat1; clear hn1; have hv1 := apr_kept (hv.alloc _) hg1 hap; have hap1 := apr_after hat1 hap (hv.alloc _); have hs1 := hg1.size; rw [World.size_alloc] at hs1; have hBB1 := (hbel.alloc (by omega) _).grown hg1 (by rw [World.size_alloc]; omega) hrowu; obtain ⟨xa1, xc1, rfl⟩ := own_sl hu1; clear hat1) | (at_builtin; refine wpList_append_own_at _ rfl (.tmp 39) (.tmp 42) 22 rfl (w.heap.size + 1) 5 j0 (.int .u8 0) 1 1 Tryd.underlying22 hj k0 k1 k2 rfl (by decide) _ _ _ rfl (hv1.alloc _) ⟨wb1.heap.size, 0, none⟩ 1 1 [.int .u8 (d2.toNat : Int)] rfl rfl (cell_one_new _ _ _) (Nm.one_cell _ rfl) (by unfold maxLen; omega) (by omega) (by simp; omega) ?_; intro vb2 wb2 hv2 hg2 hn2 hat2; clear hn2; have hu2 := apr_kept (hu1.alloc _) hg2 hap1.symm; have hap2 := (apr_after hat2 hap1.symm (hu1.alloc _)).symm; obtain ⟨ya1, yc1, rfl⟩ := own_sl hv2; clear hat2))
          have hs2 := hg2.size
          rw [World.size_alloc] at hs2
          have hB2 : Below w.heap.size w wb2 := (hBB1.alloc (by omega) _).grown hg2 (by rw [World.size_alloc]; omega) hrowv
          have hkR2 : Blk wb2 w.heap.size (Array.replicate 32 (.int .u8 0)) 23 := by
            have hx1 : Below (w.heap.size + 1) wr wb1 := ((Below.refl _ wr).alloc (by omega) _).grown hg1 (by rw [World.size_alloc]; omega) (fun q hq => (hu.lt q hq).1)
            have hx2 : Below (w.heap.size + 1) wb1 wb2 := ((Below.refl _ wb1).alloc (by omega) _).grown hg2 (by rw [World.size_alloc]; omega) (fun q hq => (hv.lt q hq).1)
            exact (hx2.block _ (by omega)).trans ((hx1.block _ (by omega)).trans hkR)
          rw [← HT1.out] at hu2
          rw [← HT2.out] at hv2
          clear hg1 hg2 hu hv hu1 hv1 hbel hBB1 hkR hap hap1 hrowu hrowv
          go_roundw
          case rel => exact ⟨k + 1, by omega, by go_num, hu2, hv2, hap2, hkR2, hB2⟩
          case measure => simp [intOf]; omega
        · have hc0 := padK_zero (l := kl) (i := k) (by omega) hlt
          have i3 : ¬ (k : Int) < (st.size : Int) := by omega
          have HT1 := Nm.hide (mix_take (m := 54) hc0)
          have HT2 := Nm.hide (mix_take (m := 92) hc0)
          have hx1 : bits .xor .u8 0 54 = (((0 : UInt8) ^^^ 54).toNat : Int) := u8_xor 0 54
          have hx2 : bits .xor .u8 0 92 = (((0 : UInt8) ^^^ 92).toNat : Int) := u8_xor 0 92
          generalize (0 : UInt8) ^^^ 54 = d1 at *
          generalize (0 : UInt8) ^^^ 92 = d2 at *
          clear hidx hsz hc0
          go_wp2_with (first | (at_builtin; refine wpList_append_own_at _ rfl (.tmp 34) (.tmp 37) 22 rfl (w.heap.size + 1) 5 j0 (.int .u8 0) 1 1 Tryd.underlying22 hj k0 k1 k2 rfl (by decide) _ _ _ rfl (hu.alloc _) ⟨wr.heap.size, 0, none⟩ 1 1 [.int .u8 (d1.toNat : Int)] rfl rfl (cell_one_new _ _ _) (Nm.one_cell _ rfl) (by unfold maxLen; omega) (by omega) (by simp; omega) ?_; intro vb1 wb1 hu1 hg1 hn1 hat1; clear hn1; have hv1 := apr_kept (hv.alloc _) hg1 hap; have hap1 := apr_after hat1 hap (hv.alloc _); have hs1 := hg1.size; rw [World.size_alloc] at hs1; have hBB1 := (hbel.alloc (by omega) _).grown hg1 (by rw [World.size_alloc]; omega) hrowu; obtain ⟨xa1, xc1, rfl⟩ := own_sl hu1; clear hat1) | (at_builtin; refine wpList_append_own_at _ rfl (.tmp 39) (.tmp 42) 22 rfl (w.heap.size + 1) 5 j0 (.int .u8 0) 1 1 Tryd.underlying22 hj k0 k1 k2 rfl (by decide) _ _ _ rfl (hv1.alloc _) ⟨wb1.heap.size, 0, none⟩ 1 1 [.int .u8 (d2.toNat : Int)] rfl rfl (cell_one_new _ _ _) (Nm.one_cell _ rfl) (by unfold maxLen; omega) (by omega) (by simp; omega) ?_; intro vb2 wb2 hv2 hg2 hn2 hat2; clear hn2; have hu2 := apr_kept (hu1.alloc _) hg2 hap1.symm; have hap2 := (apr_after hat2 hap1.symm (hu1.alloc _)).symm; obtain ⟨ya1, yc1, rfl⟩ := own_sl hv2; clear hat2))
          have hs2 := hg2.size
          rw [World.size_alloc] at hs2
          have hB2 : Below w.heap.size w wb2 := (hBB1.alloc (by omega) _).grown hg2 (by rw [World.size_alloc]; omega) hrowv
          have hkR2 : Blk wb2 w.heap.size (Array.replicate 32 (.int .u8 0)) 23 := by
            have hx1 : Below (w.heap.size + 1) wr wb1 := ((Below.refl _ wr).alloc (by omega) _).grown hg1 (by rw [World.size_alloc]; omega) (fun q hq => (hu.lt q hq).1)
            have hx2 : Below (w.heap.size + 1) wb1 wb2 := ((Below.refl _ wb1).alloc (by omega) _).grown hg2 (by rw [World.size_alloc]; omega) (fun q hq => (hv.lt q hq).1)
            exact (hx2.block _ (by omega)).trans ((hx1.block _ (by omega)).trans hkR)
          rw [← HT1.out] at hu2
          rw [← HT2.out] at hv2
          clear hg1 hg2 hu hv hu1 hv1 hbel hBB1 hkR hap hap1 hrowu hrowv
          go_roundw
          case rel => exact ⟨k + 1, by omega, by go_num, hu2, hv2, hap2, hkR2, hB2⟩
          case measure => simp [intOf]; omega
      · obtain rfl : k = 64 := by omega
        have i2 : ¬ ((64 : Nat) : Int) < 64 := by omega
        have hK64 : (padK kl).length = 64 := padK_len hKl
        rw [show (padK kl).take 64 = padK kl by rw [← hK64]; exact List.take_length] at hu hv
        clear hidx hsz hrowu hrowv i1
        obtain ⟨p1, ep1⟩ : ∃ p1, p1 = (padK kl).map (· ^^^ 54) := ⟨_, rfl⟩
        obtain ⟨p2, ep2⟩ : ∃ p2, p2 = (padK kl).map (· ^^^ 92) := ⟨_, rfl⟩
        rw [← ep1] at hu
        rw [← ep2] at hv
        have HH2 := HH.out
        rw [← ep1, ← ep2] at HH2
        have HH3 := Nm.hide HH2
        have hl1p : p1.length = 64 := by rw [ep1, List.length_map]; exact hK64
        have hl2p : p2.length = 64 := by rw [ep2, List.length_map]; exact hK64
        have HL1 := Nm.hide hl1p
        have HL2 := Nm.hide hl2p
        clear ep1 ep2 HH HH2 hK64 hl1p hl2p hlt hKl
        go_wp2
        clear i2
        obtain ⟨W2, eW2⟩ : ∃ W2, W2 = wr := ⟨_, rfl⟩
        go_loopw [6, 10] (fun u i wr => ∃ k : Nat, k ≤ lb.length ∧ i = .int .i64 k ∧ wr.ownsRow (w.heap.size + 1) 5 1 u (64 + k) (Nm.bys (p1 ++ lb.take k)) ∧ wr.ownsRow (w.heap.size + 1) 5 1 (.slice ya 64 yc) 64 (Nm.bys p2) ∧ Apr u (.slice ya 64 yc) ∧ Blk wr w.heap.size (Array.replicate 32 (.int .u8 0)) 23 ∧ Below w.heap.size w wr) (fun _ i _ => lb.length - (intOf i).toNat)
        case atStart => exact ⟨0, by omega, rfl, by simpa using hu, hv, hap, hkR, hbel⟩
        case round =>
          clear hu hv hap hkR hbel hlw eW2
          obtain ⟨k, hkl, rfl, hu, hv, hap, hkR, hbel⟩ := hrel
          obtain ⟨xa, xc, rfl⟩ := own_sl hu
          have hlw := blk_lt hkR
          by_cases hlt : k < lb.length
          · obtain ⟨c, hc⟩ : ∃ c, lb[k]? = some c := ⟨_, List.getElem?_eq_getElem hlt⟩
            obtain ⟨b, off, rfl, hcell⟩ := hbx (by omega)
            have hcw := hcell k (.int .u8 (c.toNat : Int)) (by simp [Nm.bys, hc])
            have hcr : wr.cell? ⟨b, off + k, none⟩ = some (.int .u8 (c.toNat : Int)) := (hbel.cell (World.block_lt_of_cell? w _ hcw)).trans hcw
            have HT := Nm.hide (show Nm.bys (p1 ++ lb.take (k + 1)) = Nm.bys (p1 ++ lb.take k) ++ [.int .u8 (c.toNat : Int)] by rw [List.take_add_one, hc, ← List.append_assoc, Nm.bys_append]; rfl)
            have i1 : (0 : Int) ≤ (k : Int) := by omega
            have i2 : (k : Int) < (lb.length : Int) := by omega
            clear hbx hcell hcw hc
            go_wp2_with (at_builtin; refine wpList_append_own_at _ rfl (.tmp 50) (.tmp 55) 22 rfl (w.heap.size + 1) 5 j0 (.int .u8 0) 1 1 Tryd.underlying22 hj k0 k1 k2 rfl (by decide) _ _ _ rfl (hu.alloc _) ⟨wr.heap.size, 0, none⟩ 1 1 [.int .u8 (c.toNat : Int)] rfl rfl (cell_one_new _ _ _) (Nm.one_cell _ rfl) (by unfold maxLen; omega) (by omega) (by simp; omega) ?_; intro vb1 wb1 hu1 hg1 hn1 hat1; clear hn1)
            have hv1 := apr_kept (hv.alloc _) hg1 hap
            have hap1 := apr_after hat1 hap (hv.alloc _)
            have hx1 : Below (w.heap.size + 1) wr wb1 := ((Below.refl _ wr).alloc (by omega) _).grown hg1 (by rw [World.size_alloc]; omega) (fun q hq => (hu.lt q hq).1)
            have hkR1 : Blk wb1 w.heap.size (Array.replicate 32 (.int .u8 0)) 23 := (hx1.block _ (by omega)).trans hkR
            have hbel1 := hbel.trans (hx1.mono (Nat.le_succ _))
            rw [← HT.out] at hu1
            obtain ⟨za, zc, rfl⟩ := own_sl hu1
            clear hg1 hu hv hap hkR hbel hat1 hx1
            go_roundw
            case rel => exact ⟨k + 1, by omega, by go_num, hu1, hv1, hap1, hkR1, hbel1⟩
            case measure => simp [intOf]; omega
          · obtain rfl : k = lb.length := by omega
            have i2 : ¬ (lb.length : Int) < (lb.length : Int) := by omega
            rw [List.take_length] at hu
            have hby : BySl wr (.slice xa (64 + lb.length) xc) (p1 ++ lb) := by
              have e : (p1 ++ lb).length = 64 + lb.length := by rw [List.length_append, HL1.out]
              show CRow _ _ (p1 ++ lb).length _ _
              rw [e]
              exact CRow.of_owns hu
            have hs := specSha256_any _ _ wr hby (by rw [List.length_append, HL1.out]; omega)
            have hs32 : (shaL (p1 ++ lb)).length = 32 := by rw [shaL]; exact outL_len _
            generalize shaL (p1 ++ lb) = sl at *
            have hsB : (byA sl).size = 32 := by rw [byA_size]; exact hs32
            have hinfB : (Tryd.prog.info? 23).map (·.size) = some (byA sl).size := by rw [hsB]; kernel_rfl
            have HsB := Nm.hide hsB
            have HS := Nm.hide hs32
            clear hby hu hap hsB hs32 hbx
            go_wp2_with fail
            refine hs.mono ?_
            rintro e w1 ⟨rfl, b1⟩
            have hv1 := own_below hv b1
            have hkR1 := blk_below hkR b1
            have hbel1 := Nm.below_two hbel b1
            have hlw1 := blk_lt hkR1
            clear hs hv hkR hbel b1 hlw
            have hnew : ∀ W W' : World, Only W.heap.size (W.alloc (.cells (Array.replicate 32 (.int .u8 0)) 23)) W' → Below W.heap.size W W' := fun W W' o =>
              o.below ((Below.refl _ W).alloc (Nat.le_refl _) _) (Nat.le_refl _) (by rw [World.size_alloc]; omega)
            go_wp2_with (refine wpList_store_blk (.tmp 11) (.tmp 58) 23 rfl rfl rfl w1.heap.size _ _ (blk_new _ _ _) rfl rfl hinfB (by rw [HsB.out]; simp) (byA_one _) ?_; intro w3 k3 o3; have b3 := hnew _ _ o3; clear o3)
            have hv3 := own_below hv1 b3
            have hkR3 := blk_below hkR1 b3
            have hbel3 := Nm.below_two hbel1 b3
            have hqn : w.heap.size ≠ w1.heap.size := by omega
            generalize w1.heap.size = q at *
            clear hv1 hkR1 hbel1 hnew b3 hlw1
            go_loopw [7, 12] (fun v i wr => ∃ k : Nat, k ≤ 32 ∧ i = .int .i64 k ∧ wr.ownsRow (w.heap.size + 1) 5 1 v (64 + k) (Nm.bys (p2 ++ sl.take k)) ∧ Blk wr q (byA sl) 23 ∧ Blk wr w.heap.size (Array.replicate 32 (.int .u8 0)) 23 ∧ Below w.heap.size w wr) (fun _ i _ => 32 - (intOf i).toNat)
            case atStart => exact ⟨0, by omega, rfl, by simpa using hv3, k3, hkR3, hbel3⟩
            case round =>
              clear hv3 k3 hkR3 hbel3
              obtain ⟨k, hkl, rfl, hv, hq, hkR, hbel⟩ := hrel
              obtain ⟨xa, xc, rfl⟩ := own_sl hv
              have hlw := blk_lt hkR
              by_cases hlt : k < 32
              · have hks : k < sl.length := by rw [HS.out]; exact hlt
                obtain ⟨c, hc⟩ : ∃ c, sl[k]? = some c := ⟨_, List.getElem?_eq_getElem hks⟩
                have hcr : wr.cell? ⟨q, k, none⟩ = some (.int .u8 (c.toNat : Int)) := (blk_cell hq k).trans (by simp [byA, hc])
                have HT := Nm.hide (show Nm.bys (p2 ++ sl.take (k + 1)) = Nm.bys (p2 ++ sl.take k) ++ [.int .u8 (c.toNat : Int)] by rw [List.take_add_one, hc, ← List.append_assoc, Nm.bys_append]; rfl)
                have i1 : (0 : Int) ≤ (k : Int) := by omega
                have i2 : (k : Int) < 32 := by omega
                have hqo := row_off hv hq (by decide)
                have hqr := row_off hv hkR (by decide)
                clear hc hks
                go_wp2_with (at_builtin; refine wpList_append_own _ rfl (.tmp 63) (.tmp 67) 22 rfl (w.heap.size + 1) 5 j0 (.int .u8 0) 1 1 Tryd.underlying22 hj k0 k1 k2 rfl (by decide) _ _ _ rfl (hv.alloc _) ⟨wr.heap.size, 0, none⟩ 1 1 [.int .u8 (c.toNat : Int)] rfl rfl (cell_one_new _ _ _) (Nm.one_cell _ rfl) (by unfold maxLen; omega) (by omega) (by simp; omega) ?_; intro vb1 wb1 hv1 hg1 hn1; clear hn1)
                have hq1 := blk_grown (blk_alloc hq _) hg1 hqo
                have hkR1 := blk_grown (blk_alloc hkR _) hg1 hqr
                have hbel1 : Below w.heap.size w wb1 := (hbel.alloc (by omega) _).grown hg1 (by rw [World.size_alloc]; omega) (fun q hq => by have := (hv.lt q hq).1; omega)
                rw [← HT.out] at hv1
                obtain ⟨za, zc, rfl⟩ := own_sl hv1
                clear hg1 hv hq hkR hbel hqo hqr
                go_roundw
                case rel => exact ⟨k + 1, by omega, by go_num, hv1, hq1, hkR1, hbel1⟩
                case measure => simp [intOf]; omega
              · obtain rfl : k = 32 := by omega
                rw [show ((32 : Nat) : Int) = 32 from rfl]
                rw [show sl.take 32 = sl by rw [← HS.out]; exact List.take_length] at hv
                have hby : BySl wr (.slice xa (64 + 32) xc) (p2 ++ sl) := by
                  have e : (p2 ++ sl).length = 64 + 32 := by rw [List.length_append, HL2.out, HS.out]
                  show CRow _ _ (p2 ++ sl).length _ _
                  rw [e]
                  exact CRow.of_owns hv
                have hs := specSha256_any _ _ wr hby (by rw [List.length_append, HL2.out, HS.out]; omega)
                have hs32 : (shaL (p2 ++ sl)).length = 32 := by rw [shaL]; exact outL_len _
                have HH4 := HH3.out
                generalize shaL (p2 ++ sl) = sm at *
                have hsB : (byA sm).size = 32 := by rw [byA_size]; exact hs32
                have hinfM : (Tryd.prog.info? 23).map (·.size) = some (byA sm).size := by rw [hsB]; kernel_rfl
                have HsM := Nm.hide hsB
                have HH5 := Nm.hide HH4
                clear hby hq hsB hs32 hv HH3 HH4
                go_wp2_with fail
                refine hs.mono ?_
                rintro e w2 ⟨rfl, b2⟩
                have hkR2 := blk_below hkR b2
                have hbel2 := Nm.below_two hbel b2
                have hsz2 := hbel2.size
                go_wp2_with (refine wpList_store_blk (.tmp 4) (.tmp 70) 23 rfl rfl rfl w.heap.size _ _ hkR2 rfl rfl hinfM (by rw [HsM.out]; simp) (byA_one _) ?_; intro w9 k9 o9)
                have hb9 := o9.below hbel2 (Nat.le_refl _) hsz2
                exact bodyPost_ret (v := .agg _) (run_results_cell Tryd.results4 rfl k9 Tryd.underlying23 hinfM) rfl ⟨by rw [HH5.out], hb9⟩
  · have hl1 : ¬ (64 : Int) < (lk.length : Int) := by omega
    obtain ⟨kl, ekl⟩ : ∃ kl, kl = lk := ⟨_, rfl⟩
    have HH := Nm.hide (show hmacL lk lb = shaL ((padK kl).map (· ^^^ 92) ++ shaL ((padK kl).map (· ^^^ 54) ++ lb)) by rw [ekl, hmacL, keyL, if_neg hlong])
    have hKl : kl.length ≤ 64 := by rw [ekl]; omega
    obtain ⟨st, est⟩ : ∃ st : ByteArray, st = ⟨kl.toArray⟩ := ⟨_, rfl⟩
    have hsz : st.size = kl.length := by rw [est]; show kl.toArray.size = _; simp
    have hidx : ∀ (k : Nat) (c : UInt8), kl[k]? = some c → ∀ W, (Instr.index 9 (.string st) (.int .i64 (k : Int))).run Tryd.prog W = .ok (.int .u8 (c.toNat : Int)) W := by
      intro k c hc W; rw [est]; exact byte_of kl k c hc W
    have hcv2 := hcv
    clear hcv
    have hcv := hcv2
    clear hcv2
    rw [show (ByteArray.mk lk.toArray) = st by rw [est, ekl]] at hcv
    clear est ekl
    have hT := two_new (w.alloc (.cells (Array.replicate 32 (.int .u8 0)) 23)) (w.heap.size + 1) (by rw [World.size_alloc]; omega)
    rw [World.size_alloc] at hT
    obtain ⟨t1, t2, t3⟩ := hT
    have t4 := blk_alloc (blk_alloc kR (.cells #[] 5)) (.cells #[] 5)
    have t5 := hB0.alloc hB0.size (.cells #[] 5)
    have t6 := t5.alloc t5.size (.cells #[] 5)
    clear t5 kR hB0 hk0
    go_enter Tryd.func4, Tryd.ntmps4
    go_wp2
    clear hcv
    go_loopw [6, 7, 8] (fun u v i wr => ∃ k : Nat, k ≤ 64 ∧ i = .int .i64 k ∧ wr.ownsRow (w.heap.size + 1) 5 1 u k (Nm.bys (((padK kl).take k).map (· ^^^ 54))) ∧ wr.ownsRow (w.heap.size + 1) 5 1 v k (Nm.bys (((padK kl).take k).map (· ^^^ 92))) ∧ Apr u v ∧ Blk wr w.heap.size (Array.replicate 32 (.int .u8 0)) 23 ∧ Below w.heap.size w wr) (fun _ _ i _ => 64 - (intOf i).toNat)
    case atStart => exact ⟨0, by omega, rfl, t1, t2, t3, t4, t6⟩
    case round =>
      clear t1 t2 t3 t4 t6
      obtain ⟨k, hk64, rfl, hu, hv, hap, hkR, hbel⟩ := hrel
      obtain ⟨xa, xc, rfl⟩ := own_sl hu
      obtain ⟨ya, yc, rfl⟩ := own_sl hv
      have hlw := blk_lt hkR
      have hrowu : ∀ q, Value.ownBlock (.slice xa k xc) = some q → w.heap.size ≤ q := fun q hq => by have := (hu.lt q hq).1; omega
      have hrowv : ∀ q, Value.ownBlock (.slice ya k yc) = some q → w.heap.size ≤ q := fun q hq => by have := (hv.lt q hq).1; omega
      have i1 : (0 : Int) ≤ (k : Int) := by omega
      by_cases hlt : k < 64
      · have i2 : (k : Int) < 64 := by omega
        by_cases hin : k < kl.length
        · obtain ⟨c, hc⟩ : ∃ c, kl[k]? = some c := ⟨_, List.getElem?_eq_getElem hin⟩
          have i3 : (k : Int) < (st.size : Int) := by omega
          have hi := hidx k c hc
          have HT1 := Nm.hide (mix_take (m := 54) ((padK_at hin).trans hc))
          have HT2 := Nm.hide (mix_take (m := 92) ((padK_at hin).trans hc))
          have hx1 : bits .xor .u8 (c.toNat : Int) 54 = ((c ^^^ 54).toNat : Int) := u8_xor c 54
          have hx2 : bits .xor .u8 (c.toNat : Int) 92 = ((c ^^^ 92).toNat : Int) := u8_xor c 92
          generalize c ^^^ 54 = d1 at *
          generalize c ^^^ 92 = d2 at *
          clear hidx hsz hc
          go_wp2_with (first | (at_builtin; refine wpList_append_own_at _ rfl (.tmp 34) (.tmp 37) 22 rfl (w.heap.size + 1) 5 j0 (.int .u8 0) 1 1 Tryd.underlying22 hj k0 k1 k2 rfl (by decide) _ _ _ rfl (hu.alloc _) ⟨wr.heap.size, 0, none⟩ 1 1 [.int .u8 (d1.toNat : Int)] rfl rfl (cell_one_new _ _ _) (Nm.one_cell _ rfl) (by unfold maxLen; omega) (by omega) (by simp; omega) ?_; intro vb1 wb1 hu1 hg1 hn1 hat1; clear hn1; have hv1 := apr_kept (hv.alloc _) hg1 hap; have hap1 := apr_after hat1 hap (hv.alloc _); have hs1 := hg1.size; rw [World.size_alloc] at hs1; have hBB1 := (hbel.alloc (by omega) _).grown hg1 (by rw [World.size_alloc]; omega) hrowu; obtain ⟨xa1, xc1, rfl⟩ := own_sl hu1; clear hat1) | (at_builtin; refine wpList_append_own_at _ rfl (.tmp 39) (.tmp 42) 22 rfl (w.heap.size + 1) 5 j0 (.int .u8 0) 1 1 Tryd.underlying22 hj k0 k1 k2 rfl (by decide) _ _ _ rfl (hv1.alloc _) ⟨wb1.heap.size, 0, none⟩ 1 1 [.int .u8 (d2.toNat : Int)] rfl rfl (cell_one_new _ _ _) (Nm.one_cell _ rfl) (by unfold maxLen; omega) (by omega) (by simp; omega) ?_; intro vb2 wb2 hv2 hg2 hn2 hat2; clear hn2; have hu2 := apr_kept (hu1.alloc _) hg2 hap1.symm; have hap2 := (apr_after hat2 hap1.symm (hu1.alloc _)).symm; obtain ⟨ya1, yc1, rfl⟩ := own_sl hv2; clear hat2))
          have hs2 := hg2.size
          rw [World.size_alloc] at hs2
          have hB2 : Below w.heap.size w wb2 := (hBB1.alloc (by omega) _).grown hg2 (by rw [World.size_alloc]; omega) hrowv
          have hkR2 : Blk wb2 w.heap.size (Array.replicate 32 (.int .u8 0)) 23 := by
            have hx1 : Below (w.heap.size + 1) wr wb1 := ((Below.refl _ wr).alloc (by omega) _).grown hg1 (by rw [World.size_alloc]; omega) (fun q hq => (hu.lt q hq).1)
            have hx2 : Below (w.heap.size + 1) wb1 wb2 := ((Below.refl _ wb1).alloc (by omega) _).grown hg2 (by rw [World.size_alloc]; omega) (fun q hq => (hv.lt q hq).1)
            exact (hx2.block _ (by omega)).trans ((hx1.block _ (by omega)).trans hkR)
          rw [← HT1.out] at hu2
          rw [← HT2.out] at hv2
          clear hg1 hg2 hu hv hu1 hv1 hbel hBB1 hkR hap hap1 hrowu hrowv
          go_roundw
          case rel => exact ⟨k + 1, by omega, by go_num, hu2, hv2, hap2, hkR2, hB2⟩
          case measure => simp [intOf]; omega
        · have hc0 := padK_zero (l := kl) (i := k) (by omega) hlt
          have i3 : ¬ (k : Int) < (st.size : Int) := by omega
          have HT1 := Nm.hide (mix_take (m := 54) hc0)
          have HT2 := Nm.hide (mix_take (m := 92) hc0)
          have hx1 : bits .xor .u8 0 54 = (((0 : UInt8) ^^^ 54).toNat : Int) := u8_xor 0 54
          have hx2 : bits .xor .u8 0 92 = (((0 : UInt8) ^^^ 92).toNat : Int) := u8_xor 0 92
          generalize (0 : UInt8) ^^^ 54 = d1 at *
          generalize (0 : UInt8) ^^^ 92 = d2 at *
          clear hidx hsz hc0
          go_wp2_with (first | (at_builtin; refine wpList_append_own_at _ rfl (.tmp 34) (.tmp 37) 22 rfl (w.heap.size + 1) 5 j0 (.int .u8 0) 1 1 Tryd.underlying22 hj k0 k1 k2 rfl (by decide) _ _ _ rfl (hu.alloc _) ⟨wr.heap.size, 0, none⟩ 1 1 [.int .u8 (d1.toNat : Int)] rfl rfl (cell_one_new _ _ _) (Nm.one_cell _ rfl) (by unfold maxLen; omega) (by omega) (by simp; omega) ?_; intro vb1 wb1 hu1 hg1 hn1 hat1; clear hn1; have hv1 := apr_kept (hv.alloc _) hg1 hap; have hap1 := apr_after hat1 hap (hv.alloc _); have hs1 := hg1.size; rw [World.size_alloc] at hs1; have hBB1 := (hbel.alloc (by omega) _).grown hg1 (by rw [World.size_alloc]; omega) hrowu; obtain ⟨xa1, xc1, rfl⟩ := own_sl hu1; clear hat1) | (at_builtin; refine wpList_append_own_at _ rfl (.tmp 39) (.tmp 42) 22 rfl (w.heap.size + 1) 5 j0 (.int .u8 0) 1 1 Tryd.underlying22 hj k0 k1 k2 rfl (by decide) _ _ _ rfl (hv1.alloc _) ⟨wb1.heap.size, 0, none⟩ 1 1 [.int .u8 (d2.toNat : Int)] rfl rfl (cell_one_new _ _ _) (Nm.one_cell _ rfl) (by unfold maxLen; omega) (by omega) (by simp; omega) ?_; intro vb2 wb2 hv2 hg2 hn2 hat2; clear hn2; have hu2 := apr_kept (hu1.alloc _) hg2 hap1.symm; have hap2 := (apr_after hat2 hap1.symm (hu1.alloc _)).symm; obtain ⟨ya1, yc1, rfl⟩ := own_sl hv2; clear hat2))
          have hs2 := hg2.size
          rw [World.size_alloc] at hs2
          have hB2 : Below w.heap.size w wb2 := (hBB1.alloc (by omega) _).grown hg2 (by rw [World.size_alloc]; omega) hrowv
          have hkR2 : Blk wb2 w.heap.size (Array.replicate 32 (.int .u8 0)) 23 := by
            have hx1 : Below (w.heap.size + 1) wr wb1 := ((Below.refl _ wr).alloc (by omega) _).grown hg1 (by rw [World.size_alloc]; omega) (fun q hq => (hu.lt q hq).1)
            have hx2 : Below (w.heap.size + 1) wb1 wb2 := ((Below.refl _ wb1).alloc (by omega) _).grown hg2 (by rw [World.size_alloc]; omega) (fun q hq => (hv.lt q hq).1)
            exact (hx2.block _ (by omega)).trans ((hx1.block _ (by omega)).trans hkR)
          rw [← HT1.out] at hu2
          rw [← HT2.out] at hv2
          clear hg1 hg2 hu hv hu1 hv1 hbel hBB1 hkR hap hap1 hrowu hrowv
          go_roundw
          case rel => exact ⟨k + 1, by omega, by go_num, hu2, hv2, hap2, hkR2, hB2⟩
          case measure => simp [intOf]; omega
      · obtain rfl : k = 64 := by omega
        have i2 : ¬ ((64 : Nat) : Int) < 64 := by omega
        have hK64 : (padK kl).length = 64 := padK_len hKl
        rw [show (padK kl).take 64 = padK kl by rw [← hK64]; exact List.take_length] at hu hv
        clear hidx hsz hrowu hrowv i1
        obtain ⟨p1, ep1⟩ : ∃ p1, p1 = (padK kl).map (· ^^^ 54) := ⟨_, rfl⟩
        obtain ⟨p2, ep2⟩ : ∃ p2, p2 = (padK kl).map (· ^^^ 92) := ⟨_, rfl⟩
        rw [← ep1] at hu
        rw [← ep2] at hv
        have HH2 := HH.out
        rw [← ep1, ← ep2] at HH2
        have HH3 := Nm.hide HH2
        have hl1p : p1.length = 64 := by rw [ep1, List.length_map]; exact hK64
        have hl2p : p2.length = 64 := by rw [ep2, List.length_map]; exact hK64
        have HL1 := Nm.hide hl1p
        have HL2 := Nm.hide hl2p
        clear ep1 ep2 HH HH2 hK64 hl1p hl2p hlt hKl
        go_wp2
        clear i2
        obtain ⟨W2, eW2⟩ : ∃ W2, W2 = wr := ⟨_, rfl⟩
        go_loopw [6, 10] (fun u i wr => ∃ k : Nat, k ≤ lb.length ∧ i = .int .i64 k ∧ wr.ownsRow (w.heap.size + 1) 5 1 u (64 + k) (Nm.bys (p1 ++ lb.take k)) ∧ wr.ownsRow (w.heap.size + 1) 5 1 (.slice ya 64 yc) 64 (Nm.bys p2) ∧ Apr u (.slice ya 64 yc) ∧ Blk wr w.heap.size (Array.replicate 32 (.int .u8 0)) 23 ∧ Below w.heap.size w wr) (fun _ i _ => lb.length - (intOf i).toNat)
        case atStart => exact ⟨0, by omega, rfl, by simpa using hu, hv, hap, hkR, hbel⟩
        case round =>
          clear hu hv hap hkR hbel hlw eW2
          obtain ⟨k, hkl, rfl, hu, hv, hap, hkR, hbel⟩ := hrel
          obtain ⟨xa, xc, rfl⟩ := own_sl hu
          have hlw := blk_lt hkR
          by_cases hlt : k < lb.length
          · obtain ⟨c, hc⟩ : ∃ c, lb[k]? = some c := ⟨_, List.getElem?_eq_getElem hlt⟩
            obtain ⟨b, off, rfl, hcell⟩ := hbx (by omega)
            have hcw := hcell k (.int .u8 (c.toNat : Int)) (by simp [Nm.bys, hc])
            have hcr : wr.cell? ⟨b, off + k, none⟩ = some (.int .u8 (c.toNat : Int)) := (hbel.cell (World.block_lt_of_cell? w _ hcw)).trans hcw
            have HT := Nm.hide (show Nm.bys (p1 ++ lb.take (k + 1)) = Nm.bys (p1 ++ lb.take k) ++ [.int .u8 (c.toNat : Int)] by rw [List.take_add_one, hc, ← List.append_assoc, Nm.bys_append]; rfl)
            have i1 : (0 : Int) ≤ (k : Int) := by omega
            have i2 : (k : Int) < (lb.length : Int) := by omega
            clear hbx hcell hcw hc
            go_wp2_with (at_builtin; refine wpList_append_own_at _ rfl (.tmp 50) (.tmp 55) 22 rfl (w.heap.size + 1) 5 j0 (.int .u8 0) 1 1 Tryd.underlying22 hj k0 k1 k2 rfl (by decide) _ _ _ rfl (hu.alloc _) ⟨wr.heap.size, 0, none⟩ 1 1 [.int .u8 (c.toNat : Int)] rfl rfl (cell_one_new _ _ _) (Nm.one_cell _ rfl) (by unfold maxLen; omega) (by omega) (by simp; omega) ?_; intro vb1 wb1 hu1 hg1 hn1 hat1; clear hn1)
            have hv1 := apr_kept (hv.alloc _) hg1 hap
            have hap1 := apr_after hat1 hap (hv.alloc _)
            have hx1 : Below (w.heap.size + 1) wr wb1 := ((Below.refl _ wr).alloc (by omega) _).grown hg1 (by rw [World.size_alloc]; omega) (fun q hq => (hu.lt q hq).1)
            have hkR1 : Blk wb1 w.heap.size (Array.replicate 32 (.int .u8 0)) 23 := (hx1.block _ (by omega)).trans hkR
            have hbel1 := hbel.trans (hx1.mono (Nat.le_succ _))
            rw [← HT.out] at hu1
            obtain ⟨za, zc, rfl⟩ := own_sl hu1
            clear hg1 hu hv hap hkR hbel hat1 hx1
            go_roundw
            case rel => exact ⟨k + 1, by omega, by go_num, hu1, hv1, hap1, hkR1, hbel1⟩
            case measure => simp [intOf]; omega
          · obtain rfl : k = lb.length := by omega
            have i2 : ¬ (lb.length : Int) < (lb.length : Int) := by omega
            rw [List.take_length] at hu
            have hby : BySl wr (.slice xa (64 + lb.length) xc) (p1 ++ lb) := by
              have e : (p1 ++ lb).length = 64 + lb.length := by rw [List.length_append, HL1.out]
              show CRow _ _ (p1 ++ lb).length _ _
              rw [e]
              exact CRow.of_owns hu
            have hs := specSha256_any _ _ wr hby (by rw [List.length_append, HL1.out]; omega)
            have hs32 : (shaL (p1 ++ lb)).length = 32 := by rw [shaL]; exact outL_len _
            generalize shaL (p1 ++ lb) = sl at *
            have hsB : (byA sl).size = 32 := by rw [byA_size]; exact hs32
            have hinfB : (Tryd.prog.info? 23).map (·.size) = some (byA sl).size := by rw [hsB]; kernel_rfl
            have HsB := Nm.hide hsB
            have HS := Nm.hide hs32
            clear hby hu hap hsB hs32 hbx
            go_wp2_with fail
            refine hs.mono ?_
            rintro e w1 ⟨rfl, b1⟩
            have hv1 := own_below hv b1
            have hkR1 := blk_below hkR b1
            have hbel1 := Nm.below_two hbel b1
            have hlw1 := blk_lt hkR1
            clear hs hv hkR hbel b1 hlw
            have hnew : ∀ W W' : World, Only W.heap.size (W.alloc (.cells (Array.replicate 32 (.int .u8 0)) 23)) W' → Below W.heap.size W W' := fun W W' o =>
              o.below ((Below.refl _ W).alloc (Nat.le_refl _) _) (Nat.le_refl _) (by rw [World.size_alloc]; omega)
            go_wp2_with (refine wpList_store_blk (.tmp 11) (.tmp 58) 23 rfl rfl rfl w1.heap.size _ _ (blk_new _ _ _) rfl rfl hinfB (by rw [HsB.out]; simp) (byA_one _) ?_; intro w3 k3 o3; have b3 := hnew _ _ o3; clear o3)
            have hv3 := own_below hv1 b3
            have hkR3 := blk_below hkR1 b3
            have hbel3 := Nm.below_two hbel1 b3
            have hqn : w.heap.size ≠ w1.heap.size := by omega
            generalize w1.heap.size = q at *
            clear hv1 hkR1 hbel1 hnew b3 hlw1
            go_loopw [7, 12] (fun v i wr => ∃ k : Nat, k ≤ 32 ∧ i = .int .i64 k ∧ wr.ownsRow (w.heap.size + 1) 5 1 v (64 + k) (Nm.bys (p2 ++ sl.take k)) ∧ Blk wr q (byA sl) 23 ∧ Blk wr w.heap.size (Array.replicate 32 (.int .u8 0)) 23 ∧ Below w.heap.size w wr) (fun _ i _ => 32 - (intOf i).toNat)
            case atStart => exact ⟨0, by omega, rfl, by simpa using hv3, k3, hkR3, hbel3⟩
            case round =>
              clear hv3 k3 hkR3 hbel3
              obtain ⟨k, hkl, rfl, hv, hq, hkR, hbel⟩ := hrel
              obtain ⟨xa, xc, rfl⟩ := own_sl hv
              have hlw := blk_lt hkR
              by_cases hlt : k < 32
              · have hks : k < sl.length := by rw [HS.out]; exact hlt
                obtain ⟨c, hc⟩ : ∃ c, sl[k]? = some c := ⟨_, List.getElem?_eq_getElem hks⟩
                have hcr : wr.cell? ⟨q, k, none⟩ = some (.int .u8 (c.toNat : Int)) := (blk_cell hq k).trans (by simp [byA, hc])
                have HT := Nm.hide (show Nm.bys (p2 ++ sl.take (k + 1)) = Nm.bys (p2 ++ sl.take k) ++ [.int .u8 (c.toNat : Int)] by rw [List.take_add_one, hc, ← List.append_assoc, Nm.bys_append]; rfl)
                have i1 : (0 : Int) ≤ (k : Int) := by omega
                have i2 : (k : Int) < 32 := by omega
                have hqo := row_off hv hq (by decide)
                have hqr := row_off hv hkR (by decide)
                clear hc hks
                go_wp2_with (at_builtin; refine wpList_append_own _ rfl (.tmp 63) (.tmp 67) 22 rfl (w.heap.size + 1) 5 j0 (.int .u8 0) 1 1 Tryd.underlying22 hj k0 k1 k2 rfl (by decide) _ _ _ rfl (hv.alloc _) ⟨wr.heap.size, 0, none⟩ 1 1 [.int .u8 (c.toNat : Int)] rfl rfl (cell_one_new _ _ _) (Nm.one_cell _ rfl) (by unfold maxLen; omega) (by omega) (by simp; omega) ?_; intro vb1 wb1 hv1 hg1 hn1; clear hn1)
                have hq1 := blk_grown (blk_alloc hq _) hg1 hqo
                have hkR1 := blk_grown (blk_alloc hkR _) hg1 hqr
                have hbel1 : Below w.heap.size w wb1 := (hbel.alloc (by omega) _).grown hg1 (by rw [World.size_alloc]; omega) (fun q hq => by have := (hv.lt q hq).1; omega)
                rw [← HT.out] at hv1
                obtain ⟨za, zc, rfl⟩ := own_sl hv1
                clear hg1 hv hq hkR hbel hqo hqr
                go_roundw
                case rel => exact ⟨k + 1, by omega, by go_num, hv1, hq1, hkR1, hbel1⟩
                case measure => simp [intOf]; omega
              · obtain rfl : k = 32 := by omega
                rw [show ((32 : Nat) : Int) = 32 from rfl]
                rw [show sl.take 32 = sl by rw [← HS.out]; exact List.take_length] at hv
                have hby : BySl wr (.slice xa (64 + 32) xc) (p2 ++ sl) := by
                  have e : (p2 ++ sl).length = 64 + 32 := by rw [List.length_append, HL2.out, HS.out]
                  show CRow _ _ (p2 ++ sl).length _ _
                  rw [e]
                  exact CRow.of_owns hv
                have hs := specSha256_any _ _ wr hby (by rw [List.length_append, HL2.out, HS.out]; omega)
                have hs32 : (shaL (p2 ++ sl)).length = 32 := by rw [shaL]; exact outL_len _
                have HH4 := HH3.out
                generalize shaL (p2 ++ sl) = sm at *
                have hsB : (byA sm).size = 32 := by rw [byA_size]; exact hs32
                have hinfM : (Tryd.prog.info? 23).map (·.size) = some (byA sm).size := by rw [hsB]; kernel_rfl
                have HsM := Nm.hide hsB
                have HH5 := Nm.hide HH4
                clear hby hq hsB hs32 hv HH3 HH4
                go_wp2_with fail
                refine hs.mono ?_
                rintro e w2 ⟨rfl, b2⟩
                have hkR2 := blk_below hkR b2
                have hbel2 := Nm.below_two hbel b2
                have hsz2 := hbel2.size
                go_wp2_with (refine wpList_store_blk (.tmp 4) (.tmp 70) 23 rfl rfl rfl w.heap.size _ _ hkR2 rfl rfl hinfM (by rw [HsM.out]; simp) (byA_one _) ?_; intro w9 k9 o9)
                have hb9 := o9.below hbel2 (Nat.le_refl _) hsz2
                exact bodyPost_ret (v := .agg _) (run_results_cell Tryd.results4 rfl k9 Tryd.underlying23 hinfM) rfl ⟨by rw [HH5.out], hb9⟩
end Go.Proofs.YtokegkiddkpedaaDoor
