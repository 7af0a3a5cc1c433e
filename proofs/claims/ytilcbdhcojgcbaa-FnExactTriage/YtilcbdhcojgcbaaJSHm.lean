import Derived.Test.YtilcbdhcojgcbaaJMath
import Derived.Test.YtilcbdhcojgcbaaJShL4
import Derived.Test.YtilcbdhcojgcbaaJISu
import Derived.Test.YtilcbdhcojgcbaaJICp
import Derived.Test.YtilcbdhcojgcbaaJShK
import Derived.Test.YtilcbdhcojgcbaaRows
import Derived.WalkSpells
import Derived.WalkLawsBesides
import Derived.Test.YtilcbdhcojgcbaaJCutM
/- spec.Hmac by its contract. -/
namespace Go.Proofs.Ytilcbdhcojgcbaa
open Go.RowKit
set_option linter.unusedVariables false

theorem row_off {W : World} {B e s m b : Nat} {v : Value} {xs : List Value} {cs : Array Value} {T : TypeId} (h : W.ownsRow B e s v m xs) (hb : Blk W b cs T) (hne : e ≠ T) : v.ownBlock ≠ some b := by
  rcases h.2 with ⟨rfl, _⟩ | ⟨g', cap', cur, rfl, _, hh, _⟩
  · simp [Value.ownBlock]
  · simp only [Value.ownBlock, ne_eq, Option.some.injEq]
    intro e2
    subst e2
    unfold Blk at hb
    rw [hh] at hb
    simp at hb
    exact hne hb.2

theorem two_new (W : World) (B : Nat) (hB : B ≤ W.heap.size) :
    ((W.alloc (.cells #[] 5)).alloc (.cells #[] 5)).ownsRow B 5 1 (.slice (some ⟨W.heap.size, 0, none⟩) 0 0) 0 [] ∧
    ((W.alloc (.cells #[] 5)).alloc (.cells #[] 5)).ownsRow B 5 1 (.slice (some ⟨W.heap.size + 1, 0, none⟩) 0 0) 0 [] ∧
    Apr (.slice (some ⟨W.heap.size, 0, none⟩) 0 0) (.slice (some ⟨W.heap.size + 1, 0, none⟩) 0 0) := by
  have h1 := World.ownsRow_made (base := B) (size := 1) (e := 5) W #[] 0 hB (by decide) rfl
  have h2 := World.ownsRow_made (base := B) (size := 1) (e := 5) (W.alloc (.cells #[] 5)) #[] 0 (by rw [World.size_alloc]; omega) (by decide) rfl
  rw [World.size_alloc] at h2
  refine ⟨h1.alloc _, h2, ?_⟩
  intro k hk hk2
  simp only [Value.ownBlock, Option.some.injEq] at hk hk2
  omega

set_option maxRecDepth 100000 in
set_option maxHeartbeats 3200000 in
theorem specHmac_any (vk vb : Value) (lk lb : List UInt8) (w : World) (hk : BySl w vk lk) (hb : BySl w vb lb) (hlk : lk.length ≤ 1048576) (hlb : lb.length ≤ 2000000) :
    Calls Try.prog 36 #[vk, vb] w fun e w' => e = .returned (.agg (byA (hmacL lk lb))) ∧ Below w.heap.size w w' := by
  obtain ⟨j0, hj, k0, k1, k2⟩ := info_parts Try.infoBy
  have hz32 : ∀ W, (zeroValue 71).run Try.prog W = .ok (.agg (Array.replicate 32 (.int .u8 0))) W := by
    have := zero_of_info (P := Try.prog) (t := 71) (v := .agg (Array.replicate 32 (.int .u8 0))) (n := 32) (by kernel_rfl)
    exact this.1
  have kR := blk_new w (Array.replicate 32 (.int .u8 0)) 71
  have hB0 := (Below.refl w.heap.size w).alloc (Nat.le_refl _) (.cells (Array.replicate 32 (.int .u8 0)) 71)
  have hcv := row_strB (hk.below hB0)
  have hk0 := hk.below hB0
  obtain ⟨_, ak, ck, rfl, hkc, hkm, hkx⟩ := hk
  obtain ⟨_, ab, cb, rfl, hbc, hbm, hbx⟩ := hb
  by_cases hlong : 64 < lk.length
  · have hl1 : (64 : Int) < (lk.length : Int) := by omega
    have hs32 : (shaL lk).length = 32 := by rw [shaL]; exact outL_len _
    have hsp := specSha256_any _ _ _ hk0 (by omega)
    have hss := fun W => l09Str_any (shaL lk) hs32 W
    obtain ⟨kl, ekl⟩ : ∃ kl, kl = shaL lk := ⟨_, rfl⟩
    have HH := Nm.hide (show hmacL lk lb = shaL ((padK kl).map (· ^^^ 92) ++ shaL ((padK kl).map (· ^^^ 54) ++ lb)) by rw [ekl, hmacL, keyL, if_pos hlong])
    rw [← ekl] at hsp hss hs32
    have hKl : kl.length ≤ 64 := by omega
    obtain ⟨st, est⟩ : ∃ st : ByteArray, st = ⟨kl.toArray⟩ := ⟨_, rfl⟩
    have hsz : st.size = kl.length := by rw [est]; show kl.toArray.size = _; simp
    have hidx : ∀ (k : Nat) (c : UInt8), kl[k]? = some c → ∀ W, (Instr.index 9 (.string st) (.int .i64 (k : Int))).run Try.prog W = .ok (.int .u8 (c.toNat : Int)) W := by
      intro k c hc W; rw [est]; exact byte_of kl k c hc W
    rw [← est] at hss
    clear est ekl hs32 hlong hk0
    go_enter Try.func36, Try.ntmps36
    go_wp2_with fail
    refine hsp.mono ?_
    rintro e w1 ⟨rfl, b1⟩
    go_wp2_with fail
    refine (hss _).mono ?_
    rintro e w2 ⟨rfl, b2⟩
    have kR2 := blk_below (blk_below kR b1) b2
    have hB2 := Nm.below_two (Nm.below_two hB0 b1) b2
    have hlR := blk_lt kR2
    have hT := two_new w2 (w.heap.size + 1) hlR
    obtain ⟨t1, t2, t3⟩ := hT
    have t4 := blk_alloc (blk_alloc kR2 (.cells #[] 5)) (.cells #[] 5)
    have t5 := hB2.alloc hB2.size (.cells #[] 5)
    have t6 := t5.alloc t5.size (.cells #[] 5)
    clear t5 kR hB0 hcv hsp hss kR2 hB2 b1 b2
    go_wp2
    go_loopw [6, 7, 8] (fun u v i wr => ∃ k : Nat, k ≤ 64 ∧ i = .int .i64 k ∧ wr.ownsRow (w.heap.size + 1) 5 1 u k (Nm.bys (((padK kl).take k).map (· ^^^ 54))) ∧ wr.ownsRow (w.heap.size + 1) 5 1 v k (Nm.bys (((padK kl).take k).map (· ^^^ 92))) ∧ Apr u v ∧ Blk wr w.heap.size (Array.replicate 32 (.int .u8 0)) 71 ∧ Below w.heap.size w wr) (fun _ _ i _ => 64 - (intOf i).toNat)
    case atStart => exact ⟨0, by omega, rfl, t1, t2, t3, t4, t6⟩
    case round =>
      clear t1 t2 t3 t4 t6
      obtain ⟨k, hk64, rfl, hu, hv, hap, hkR, hbel⟩ := hrel
      obtain ⟨xa, xc, rfl⟩ := own_sl hu
      obtain ⟨ya, yc, rfl⟩ := own_sl hv
      have hlw := blk_lt hkR
      have hrowu : ∀ q, Value.ownBlock (.slice xa k xc) = some q → w.heap.size ≤ q := fun q hq => by have := (hu.lt q hq).1; omega
      have hrowv : ∀ q, Value.ownBlock (.slice ya k yc) = some q → w.heap.size ≤ q := fun q hq => by have := (hv.lt q hq).1; omega
      have i1 : (0 : Int) ≤ (k : Int) := by omega
      by_cases hlt : k < 64
      · have i2 : (k : Int) < 64 := by omega
        by_cases hin : k < kl.length
        · obtain ⟨c, hc⟩ : ∃ c, kl[k]? = some c := ⟨_, List.getElem?_eq_getElem hin⟩
          have i3 : (k : Int) < (st.size : Int) := by omega
          have hi := hidx k c hc
          have HT1 := Nm.hide (mix_take (m := 54) ((padK_at hin).trans hc))
          have HT2 := Nm.hide (mix_take (m := 92) ((padK_at hin).trans hc))
          have hx1 : bits .xor .u8 (c.toNat : Int) 54 = ((c ^^^ 54).toNat : Int) := u8_xor c 54
          have hx2 : bits .xor .u8 (c.toNat : Int) 92 = ((c ^^^ 92).toNat : Int) := u8_xor c 92
          generalize c ^^^ 54 = d1 at *
          generalize c ^^^ 92 = d2 at *
          clear hidx hsz hc
          go_wp2_with (first | (at_builtin; refine wpList_append_own_at _ rfl (.tmp 34) (.tmp 37) 22 rfl (w.heap.size + 1) 5 j0 (.int .u8 0) 1 1 Try.underlying22 hj k0 k1 k2 rfl (by decide) _ _ _ rfl (hu.alloc _) ⟨wr.heap.size, 0, none⟩ 1 1 [.int .u8 (d1.toNat : Int)] rfl rfl (cell_one_new _ _ _) (Nm.one_cell _ rfl) (by unfold maxLen; omega) (by omega) (by simp; omega) ?_; intro vb1 wb1 hu1 hg1 hn1 hat1; clear hn1; have hv1 := apr_kept (hv.alloc _) hg1 hap; have hap1 := apr_after hat1 hap (hv.alloc _); have hs1 := hg1.size; rw [World.size_alloc] at hs1; have hBB1 := (hbel.alloc (by omega) _).grown hg1 (by rw [World.size_alloc]; omega) hrowu; obtain ⟨xa1, xc1, rfl⟩ := own_sl hu1; clear hat1) | (at_builtin; refine wpList_append_own_at _ rfl (.tmp 39) (.tmp 42) 22 rfl (w.heap.size + 1) 5 j0 (.int .u8 0) 1 1 Try.underlying22 hj k0 k1 k2 rfl (by decide) _ _ _ rfl (hv1.alloc _) ⟨wb1.heap.size, 0, none⟩ 1 1 [.int .u8 (d2.toNat : Int)] rfl rfl (cell_one_new _ _ _) (Nm.one_cell _ rfl) (by unfold maxLen; omega) (by omega) (by simp; omega) ?_; intro vb2 wb2 hv2 hg2 hn2 hat2; clear hn2; have hu2 := apr_kept (hu1.alloc _) hg2 hap1.symm; have hap2 := (apr_after hat2 hap1.symm (hu1.alloc _)).symm; obtain ⟨ya1, yc1, rfl⟩ := own_sl hv2; clear hat2))
          have hs2 := hg2.size
          rw [World.size_alloc] at hs2
          have hB2 : Below w.heap.size w wb2 := (hBB1.alloc (by omega) _).grown hg2 (by rw [World.size_alloc]; omega) hrowv
          have hkR2 : Blk wb2 w.heap.size (Array.replicate 32 (.int .u8 0)) 71 := by
            have hx1 : Below (w.heap.size + 1) wr wb1 := ((Below.refl _ wr).alloc (by omega) _).grown hg1 (by rw [World.size_alloc]; omega) (fun q hq => (hu.lt q hq).1)
            have hx2 : Below (w.heap.size + 1) wb1 wb2 := ((Below.refl _ wb1).alloc (by omega) _).grown hg2 (by rw [World.size_alloc]; omega) (fun q hq => (hv.lt q hq).1)
            exact (hx2.block _ (by omega)).trans ((hx1.block _ (by omega)).trans hkR)
          rw [← HT1.out] at hu2
          rw [← HT2.out] at hv2
          clear hg1 hg2 hu hv hu1 hv1 hbel hBB1 hkR hap hap1 hrowu hrowv
          go_roundw
          case rel => exact ⟨k + 1, by omega, by go_num, hu2, hv2, hap2, hkR2, hB2⟩
          case measure => simp [intOf]; omega
        · have hc0 := padK_zero (l := kl) (i := k) (by omega) hlt
          have i3 : ¬ (k : Int) < (st.size : Int) := by omega
          have HT1 := Nm.hide (mix_take (m := 54) hc0)
          have HT2 := Nm.hide (mix_take (m := 92) hc0)
          have hx1 : bits .xor .u8 0 54 = (((0 : UInt8) ^^^ 54).toNat : Int) := u8_xor 0 54
          have hx2 : bits .xor .u8 0 92 = (((0 : UInt8) ^^^ 92).toNat : Int) := u8_xor 0 92
          generalize (0 : UInt8) ^^^ 54 = d1 at *
          generalize (0 : UInt8) ^^^ 92 = d2 at *
          clear hidx hsz hc0
          go_wp2_with (first | (at_builtin; refine wpList_append_own_at _ rfl (.tmp 34) (.tmp 37) 22 rfl (w.heap.size + 1) 5 j0 (.int .u8 0) 1 1 Try.underlying22 hj k0 k1 k2 rfl (by decide) _ _ _ rfl (hu.alloc _) ⟨wr.heap.size, 0, none⟩ 1 1 [.int .u8 (d1.toNat : Int)] rfl rfl (cell_one_new _ _ _) (Nm.one_cell _ rfl) (by unfold maxLen; omega) (by omega) (by simp; omega) ?_; intro vb1 wb1 hu1 hg1 hn1 hat1; clear hn1; have hv1 := apr_kept (hv.alloc _) hg1 hap; have hap1 := apr_after hat1 hap (hv.alloc _); have hs1 := hg1.size; rw [World.size_alloc] at hs1; have hBB1 := (hbel.alloc (by omega) _).grown hg1 (by rw [World.size_alloc]; omega) hrowu; obtain ⟨xa1, xc1, rfl⟩ := own_sl hu1; clear hat1) | (at_builtin; refine wpList_append_own_at _ rfl (.tmp 39) (.tmp 42) 22 rfl (w.heap.size + 1) 5 j0 (.int .u8 0) 1 1 Try.underlying22 hj k0 k1 k2 rfl (by decide) _ _ _ rfl (hv1.alloc _) ⟨wb1.heap.size, 0, none⟩ 1 1 [.int .u8 (d2.toNat : Int)] rfl rfl (cell_one_new _ _ _) (Nm.one_cell _ rfl) (by unfold maxLen; omega) (by omega) (by simp; omega) ?_; intro vb2 wb2 hv2 hg2 hn2 hat2; clear hn2; have hu2 := apr_kept (hu1.alloc _) hg2 hap1.symm; have hap2 := (apr_after hat2 hap1.symm (hu1.alloc _)).symm; obtain ⟨ya1, yc1, rfl⟩ := own_sl hv2; clear hat2))
          have hs2 := hg2.size
          rw [World.size_alloc] at hs2
          have hB2 : Below w.heap.size w wb2 := (hBB1.alloc (by omega) _).grown hg2 (by rw [World.size_alloc]; omega) hrowv
          have hkR2 : Blk wb2 w.heap.size (Array.replicate 32 (.int .u8 0)) 71 := by
            have hx1 : Below (w.heap.size + 1) wr wb1 := ((Below.refl _ wr).alloc (by omega) _).grown hg1 (by rw [World.size_alloc]; omega) (fun q hq => (hu.lt q hq).1)
            have hx2 : Below (w.heap.size + 1) wb1 wb2 := ((Below.refl _ wb1).alloc (by omega) _).grown hg2 (by rw [World.size_alloc]; omega) (fun q hq => (hv.lt q hq).1)
            exact (hx2.block _ (by omega)).trans ((hx1.block _ (by omega)).trans hkR)
          rw [← HT1.out] at hu2
          rw [← HT2.out] at hv2
          clear hg1 hg2 hu hv hu1 hv1 hbel hBB1 hkR hap hap1 hrowu hrowv
          go_roundw
          case rel => exact ⟨k + 1, by omega, by go_num, hu2, hv2, hap2, hkR2, hB2⟩
          case measure => simp [intOf]; omega
      · obtain rfl : k = 64 := by omega
        have i2 : ¬ ((64 : Nat) : Int) < 64 := by omega
        have hK64 : (padK kl).length = 64 := padK_len hKl
        rw [show (padK kl).take 64 = padK kl by rw [← hK64]; exact List.take_length] at hu hv
        clear hidx hsz hrowu hrowv i1
        obtain ⟨p1, ep1⟩ : ∃ p1, p1 = (padK kl).map (· ^^^ 54) := ⟨_, rfl⟩
        obtain ⟨p2, ep2⟩ : ∃ p2, p2 = (padK kl).map (· ^^^ 92) := ⟨_, rfl⟩
        rw [← ep1] at hu
        rw [← ep2] at hv
        have HH2 := HH.out
        rw [← ep1, ← ep2] at HH2
        have HH3 := Nm.hide HH2
        have hl1p : p1.length = 64 := by rw [ep1, List.length_map]; exact hK64
        have hl2p : p2.length = 64 := by rw [ep2, List.length_map]; exact hK64
        have HL1 := Nm.hide hl1p
        have HL2 := Nm.hide hl2p
        clear ep1 ep2 HH HH2 hK64 hl1p hl2p hlt hKl
        go_wp2
        clear i2
        obtain ⟨W2, eW2⟩ : ∃ W2, W2 = wr := ⟨_, rfl⟩
        go_loopw [6, 10] (fun u i wr => ∃ k : Nat, k ≤ lb.length ∧ i = .int .i64 k ∧ wr.ownsRow (w.heap.size + 1) 5 1 u (64 + k) (Nm.bys (p1 ++ lb.take k)) ∧ wr.ownsRow (w.heap.size + 1) 5 1 (.slice ya 64 yc) 64 (Nm.bys p2) ∧ Apr u (.slice ya 64 yc) ∧ Blk wr w.heap.size (Array.replicate 32 (.int .u8 0)) 71 ∧ Below w.heap.size w wr) (fun _ i _ => lb.length - (intOf i).toNat)
        case atStart => exact ⟨0, by omega, rfl, by simpa using hu, hv, hap, hkR, hbel⟩
        case round =>
          clear hu hv hap hkR hbel hlw eW2
          obtain ⟨k, hkl, rfl, hu, hv, hap, hkR, hbel⟩ := hrel
          obtain ⟨xa, xc, rfl⟩ := own_sl hu
          have hlw := blk_lt hkR
          by_cases hlt : k < lb.length
          · obtain ⟨c, hc⟩ : ∃ c, lb[k]? = some c := ⟨_, List.getElem?_eq_getElem hlt⟩
            obtain ⟨b, off, rfl, hcell⟩ := hbx (by omega)
            have hcw := hcell k (.int .u8 (c.toNat : Int)) (by simp [Nm.bys, hc])
            have hcr : wr.cell? ⟨b, off + k, none⟩ = some (.int .u8 (c.toNat : Int)) := (hbel.cell (World.block_lt_of_cell? w _ hcw)).trans hcw
            have HT := Nm.hide (show Nm.bys (p1 ++ lb.take (k + 1)) = Nm.bys (p1 ++ lb.take k) ++ [.int .u8 (c.toNat : Int)] by rw [List.take_add_one, hc, ← List.append_assoc, Nm.bys_append]; rfl)
            have i1 : (0 : Int) ≤ (k : Int) := by omega
            have i2 : (k : Int) < (lb.length : Int) := by omega
            clear hbx hcell hcw hc
            go_wp2_with (at_builtin; refine wpList_append_own_at _ rfl (.tmp 50) (.tmp 55) 22 rfl (w.heap.size + 1) 5 j0 (.int .u8 0) 1 1 Try.underlying22 hj k0 k1 k2 rfl (by decide) _ _ _ rfl (hu.alloc _) ⟨wr.heap.size, 0, none⟩ 1 1 [.int .u8 (c.toNat : Int)] rfl rfl (cell_one_new _ _ _) (Nm.one_cell _ rfl) (by unfold maxLen; omega) (by omega) (by simp; omega) ?_; intro vb1 wb1 hu1 hg1 hn1 hat1; clear hn1)
            have hv1 := apr_kept (hv.alloc _) hg1 hap
            have hap1 := apr_after hat1 hap (hv.alloc _)
            have hx1 : Below (w.heap.size + 1) wr wb1 := ((Below.refl _ wr).alloc (by omega) _).grown hg1 (by rw [World.size_alloc]; omega) (fun q hq => (hu.lt q hq).1)
            have hkR1 : Blk wb1 w.heap.size (Array.replicate 32 (.int .u8 0)) 71 := (hx1.block _ (by omega)).trans hkR
            have hbel1 := hbel.trans (hx1.mono (Nat.le_succ _))
            rw [← HT.out] at hu1
            obtain ⟨za, zc, rfl⟩ := own_sl hu1
            clear hg1 hu hv hap hkR hbel hat1 hx1
            go_roundw
            case rel => exact ⟨k + 1, by omega, by go_num, hu1, hv1, hap1, hkR1, hbel1⟩
            case measure => simp [intOf]; omega
          · obtain rfl : k = lb.length := by omega
            have i2 : ¬ (lb.length : Int) < (lb.length : Int) := by omega
            rw [List.take_length] at hu
            have hby : BySl wr (.slice xa (64 + lb.length) xc) (p1 ++ lb) := by
              have e : (p1 ++ lb).length = 64 + lb.length := by rw [List.length_append, HL1.out]
              show CRow _ _ (p1 ++ lb).length _ _
              rw [e]
              exact CRow.of_owns hu
            have hs := specSha256_any _ _ wr hby (by rw [List.length_append, HL1.out]; omega)
            have hs32 : (shaL (p1 ++ lb)).length = 32 := by rw [shaL]; exact outL_len _
            generalize shaL (p1 ++ lb) = sl at *
            have hsB : (byA sl).size = 32 := by rw [byA_size]; exact hs32
            have hinfB : (Try.prog.info? 71).map (·.size) = some (byA sl).size := by rw [hsB]; kernel_rfl
            have HsB := Nm.hide hsB
            have HS := Nm.hide hs32
            clear hby hu hap hsB hs32 hbx
            go_wp2_with fail
            refine hs.mono ?_
            rintro e w1 ⟨rfl, b1⟩
            have hv1 := own_below hv b1
            have hkR1 := blk_below hkR b1
            have hbel1 := Nm.below_two hbel b1
            have hlw1 := blk_lt hkR1
            clear hs hv hkR hbel b1 hlw
            have hnew : ∀ W W' : World, Only W.heap.size (W.alloc (.cells (Array.replicate 32 (.int .u8 0)) 71)) W' → Below W.heap.size W W' := fun W W' o =>
              o.below ((Below.refl _ W).alloc (Nat.le_refl _) _) (Nat.le_refl _) (by rw [World.size_alloc]; omega)
            go_wp2_with (refine wpList_store_blk (.tmp 11) (.tmp 58) 71 rfl rfl rfl w1.heap.size _ _ (blk_new _ _ _) rfl rfl hinfB (by rw [HsB.out]; simp) (byA_one _) ?_; intro w3 k3 o3; have b3 := hnew _ _ o3; clear o3)
            have hv3 := own_below hv1 b3
            have hkR3 := blk_below hkR1 b3
            have hbel3 := Nm.below_two hbel1 b3
            have hqn : w.heap.size ≠ w1.heap.size := by omega
            generalize w1.heap.size = q at *
            clear hv1 hkR1 hbel1 hnew b3 hlw1
            go_loopw [7, 12] (fun v i wr => ∃ k : Nat, k ≤ 32 ∧ i = .int .i64 k ∧ wr.ownsRow (w.heap.size + 1) 5 1 v (64 + k) (Nm.bys (p2 ++ sl.take k)) ∧ Blk wr q (byA sl) 71 ∧ Blk wr w.heap.size (Array.replicate 32 (.int .u8 0)) 71 ∧ Below w.heap.size w wr) (fun _ i _ => 32 - (intOf i).toNat)
            case atStart => exact ⟨0, by omega, rfl, by simpa using hv3, k3, hkR3, hbel3⟩
            case round =>
              clear hv3 k3 hkR3 hbel3
              obtain ⟨k, hkl, rfl, hv, hq, hkR, hbel⟩ := hrel
              obtain ⟨xa, xc, rfl⟩ := own_sl hv
              have hlw := blk_lt hkR
              by_cases hlt : k < 32
              · have hks : k < sl.length := by rw [HS.out]; exact hlt
                obtain ⟨c, hc⟩ : ∃ c, sl[k]? = some c := ⟨_, List.getElem?_eq_getElem hks⟩
                have hcr : wr.cell? ⟨q, k, none⟩ = some (.int .u8 (c.toNat : Int)) := (blk_cell hq k).trans (by simp [byA, hc])
                have HT := Nm.hide (show Nm.bys (p2 ++ sl.take (k + 1)) = Nm.bys (p2 ++ sl.take k) ++ [.int .u8 (c.toNat : Int)] by rw [List.take_add_one, hc, ← List.append_assoc, Nm.bys_append]; rfl)
                have i1 : (0 : Int) ≤ (k : Int) := by omega
                have i2 : (k : Int) < 32 := by omega
                have hqo := row_off hv hq (by decide)
                have hqr := row_off hv hkR (by decide)
                clear hc hks
                go_wp2_with (at_builtin; refine wpList_append_own _ rfl (.tmp 63) (.tmp 67) 22 rfl (w.heap.size + 1) 5 j0 (.int .u8 0) 1 1 Try.underlying22 hj k0 k1 k2 rfl (by decide) _ _ _ rfl (hv.alloc _) ⟨wr.heap.size, 0, none⟩ 1 1 [.int .u8 (c.toNat : Int)] rfl rfl (cell_one_new _ _ _) (Nm.one_cell _ rfl) (by unfold maxLen; omega) (by omega) (by simp; omega) ?_; intro vb1 wb1 hv1 hg1 hn1; clear hn1)
                have hq1 := blk_grown (blk_alloc hq _) hg1 hqo
                have hkR1 := blk_grown (blk_alloc hkR _) hg1 hqr
                have hbel1 : Below w.heap.size w wb1 := (hbel.alloc (by omega) _).grown hg1 (by rw [World.size_alloc]; omega) (fun q hq => by have := (hv.lt q hq).1; omega)
                rw [← HT.out] at hv1
                obtain ⟨za, zc, rfl⟩ := own_sl hv1
                clear hg1 hv hq hkR hbel hqo hqr
                go_roundw
                case rel => exact ⟨k + 1, by omega, by go_num, hv1, hq1, hkR1, hbel1⟩
                case measure => simp [intOf]; omega
              · obtain rfl : k = 32 := by omega
                rw [show ((32 : Nat) : Int) = 32 from rfl]
                rw [show sl.take 32 = sl by rw [← HS.out]; exact List.take_length] at hv
                have hby : BySl wr (.slice xa (64 + 32) xc) (p2 ++ sl) := by
                  have e : (p2 ++ sl).length = 64 + 32 := by rw [List.length_append, HL2.out, HS.out]
                  show CRow _ _ (p2 ++ sl).length _ _
                  rw [e]
                  exact CRow.of_owns hv
                have hs := specSha256_any _ _ wr hby (by rw [List.length_append, HL2.out, HS.out]; omega)
                have hs32 : (shaL (p2 ++ sl)).length = 32 := by rw [shaL]; exact outL_len _
                have HH4 := HH3.out
                generalize shaL (p2 ++ sl) = sm at *
                have hsB : (byA sm).size = 32 := by rw [byA_size]; exact hs32
                have hinfM : (Try.prog.info? 71).map (·.size) = some (byA sm).size := by rw [hsB]; kernel_rfl
                have HsM := Nm.hide hsB
                have HH5 := Nm.hide HH4
                clear hby hq hsB hs32 hv HH3 HH4
                go_wp2_with fail
                refine hs.mono ?_
                rintro e w2 ⟨rfl, b2⟩
                have hkR2 := blk_below hkR b2
                have hbel2 := Nm.below_two hbel b2
                have hsz2 := hbel2.size
                go_wp2_with (refine wpList_store_blk (.tmp 4) (.tmp 70) 71 rfl rfl rfl w.heap.size _ _ hkR2 rfl rfl hinfM (by rw [HsM.out]; simp) (byA_one _) ?_; intro w9 k9 o9)
                have hb9 := o9.below hbel2 (Nat.le_refl _) hsz2
                exact bodyPost_ret (v := .agg _) (run_results_cell Try.results36 rfl k9 Try.underlying71 hinfM) rfl ⟨by rw [HH5.out], hb9⟩
  · have hl1 : ¬ (64 : Int) < (lk.length : Int) := by omega
    obtain ⟨kl, ekl⟩ : ∃ kl, kl = lk := ⟨_, rfl⟩
    have HH := Nm.hide (show hmacL lk lb = shaL ((padK kl).map (· ^^^ 92) ++ shaL ((padK kl).map (· ^^^ 54) ++ lb)) by rw [ekl, hmacL, keyL, if_neg hlong])
    have hKl : kl.length ≤ 64 := by rw [ekl]; omega
    obtain ⟨st, est⟩ : ∃ st : ByteArray, st = ⟨kl.toArray⟩ := ⟨_, rfl⟩
    have hsz : st.size = kl.length := by rw [est]; show kl.toArray.size = _; simp
    have hidx : ∀ (k : Nat) (c : UInt8), kl[k]? = some c → ∀ W, (Instr.index 9 (.string st) (.int .i64 (k : Int))).run Try.prog W = .ok (.int .u8 (c.toNat : Int)) W := by
      intro k c hc W; rw [est]; exact byte_of kl k c hc W
    have hcv2 := hcv
    clear hcv
    have hcv := hcv2
    clear hcv2
    rw [show (ByteArray.mk lk.toArray) = st by rw [est, ekl]] at hcv
    clear est ekl
    have hT := two_new (w.alloc (.cells (Array.replicate 32 (.int .u8 0)) 71)) (w.heap.size + 1) (by rw [World.size_alloc]; omega)
    rw [World.size_alloc] at hT
    obtain ⟨t1, t2, t3⟩ := hT
    have t4 := blk_alloc (blk_alloc kR (.cells #[] 5)) (.cells #[] 5)
    have t5 := hB0.alloc hB0.size (.cells #[] 5)
    have t6 := t5.alloc t5.size (.cells #[] 5)
    clear t5 kR hB0 hk0
    go_enter Try.func36, Try.ntmps36
    go_wp2
    clear hcv
    go_loopw [6, 7, 8] (fun u v i wr => ∃ k : Nat, k ≤ 64 ∧ i = .int .i64 k ∧ wr.ownsRow (w.heap.size + 1) 5 1 u k (Nm.bys (((padK kl).take k).map (· ^^^ 54))) ∧ wr.ownsRow (w.heap.size + 1) 5 1 v k (Nm.bys (((padK kl).take k).map (· ^^^ 92))) ∧ Apr u v ∧ Blk wr w.heap.size (Array.replicate 32 (.int .u8 0)) 71 ∧ Below w.heap.size w wr) (fun _ _ i _ => 64 - (intOf i).toNat)
    case atStart => exact ⟨0, by omega, rfl, t1, t2, t3, t4, t6⟩
    case round =>
      clear t1 t2 t3 t4 t6
      obtain ⟨k, hk64, rfl, hu, hv, hap, hkR, hbel⟩ := hrel
      obtain ⟨xa, xc, rfl⟩ := own_sl hu
      obtain ⟨ya, yc, rfl⟩ := own_sl hv
      have hlw := blk_lt hkR
      have hrowu : ∀ q, Value.ownBlock (.slice xa k xc) = some q → w.heap.size ≤ q := fun q hq => by have := (hu.lt q hq).1; omega
      have hrowv : ∀ q, Value.ownBlock (.slice ya k yc) = some q → w.heap.size ≤ q := fun q hq => by have := (hv.lt q hq).1; omega
      have i1 : (0 : Int) ≤ (k : Int) := by omega
      by_cases hlt : k < 64
      · have i2 : (k : Int) < 64 := by omega
        by_cases hin : k < kl.length
        · obtain ⟨c, hc⟩ : ∃ c, kl[k]? = some c := ⟨_, List.getElem?_eq_getElem hin⟩
          have i3 : (k : Int) < (st.size : Int) := by omega
          have hi := hidx k c hc
          have HT1 := Nm.hide (mix_take (m := 54) ((padK_at hin).trans hc))
          have HT2 := Nm.hide (mix_take (m := 92) ((padK_at hin).trans hc))
          have hx1 : bits .xor .u8 (c.toNat : Int) 54 = ((c ^^^ 54).toNat : Int) := u8_xor c 54
          have hx2 : bits .xor .u8 (c.toNat : Int) 92 = ((c ^^^ 92).toNat : Int) := u8_xor c 92
          generalize c ^^^ 54 = d1 at *
          generalize c ^^^ 92 = d2 at *
          clear hidx hsz hc
          go_wp2_with (first | (at_builtin; refine wpList_append_own_at _ rfl (.tmp 34) (.tmp 37) 22 rfl (w.heap.size + 1) 5 j0 (.int .u8 0) 1 1 Try.underlying22 hj k0 k1 k2 rfl (by decide) _ _ _ rfl (hu.alloc _) ⟨wr.heap.size, 0, none⟩ 1 1 [.int .u8 (d1.toNat : Int)] rfl rfl (cell_one_new _ _ _) (Nm.one_cell _ rfl) (by unfold maxLen; omega) (by omega) (by simp; omega) ?_; intro vb1 wb1 hu1 hg1 hn1 hat1; clear hn1; have hv1 := apr_kept (hv.alloc _) hg1 hap; have hap1 := apr_after hat1 hap (hv.alloc _); have hs1 := hg1.size; rw [World.size_alloc] at hs1; have hBB1 := (hbel.alloc (by omega) _).grown hg1 (by rw [World.size_alloc]; omega) hrowu; obtain ⟨xa1, xc1, rfl⟩ := own_sl hu1; clear hat1) | (at_builtin; refine wpList_append_own_at _ rfl (.tmp 39) (.tmp 42) 22 rfl (w.heap.size + 1) 5 j0 (.int .u8 0) 1 1 Try.underlying22 hj k0 k1 k2 rfl (by decide) _ _ _ rfl (hv1.alloc _) ⟨wb1.heap.size, 0, none⟩ 1 1 [.int .u8 (d2.toNat : Int)] rfl rfl (cell_one_new _ _ _) (Nm.one_cell _ rfl) (by unfold maxLen; omega) (by omega) (by simp; omega) ?_; intro vb2 wb2 hv2 hg2 hn2 hat2; clear hn2; have hu2 := apr_kept (hu1.alloc _) hg2 hap1.symm; have hap2 := (apr_after hat2 hap1.symm (hu1.alloc _)).symm; obtain ⟨ya1, yc1, rfl⟩ := own_sl hv2; clear hat2))
          have hs2 := hg2.size
          rw [World.size_alloc] at hs2
          have hB2 : Below w.heap.size w wb2 := (hBB1.alloc (by omega) _).grown hg2 (by rw [World.size_alloc]; omega) hrowv
          have hkR2 : Blk wb2 w.heap.size (Array.replicate 32 (.int .u8 0)) 71 := by
            have hx1 : Below (w.heap.size + 1) wr wb1 := ((Below.refl _ wr).alloc (by omega) _).grown hg1 (by rw [World.size_alloc]; omega) (fun q hq => (hu.lt q hq).1)
            have hx2 : Below (w.heap.size + 1) wb1 wb2 := ((Below.refl _ wb1).alloc (by omega) _).grown hg2 (by rw [World.size_alloc]; omega) (fun q hq => (hv.lt q hq).1)
            exact (hx2.block _ (by omega)).trans ((hx1.block _ (by omega)).trans hkR)
          rw [← HT1.out] at hu2
          rw [← HT2.out] at hv2
          clear hg1 hg2 hu hv hu1 hv1 hbel hBB1 hkR hap hap1 hrowu hrowv
          go_roundw
          case rel => exact ⟨k + 1, by omega, by go_num, hu2, hv2, hap2, hkR2, hB2⟩
          case measure => simp [intOf]; omega
        · have hc0 := padK_zero (l := kl) (i := k) (by omega) hlt
          have i3 : ¬ (k : Int) < (st.size : Int) := by omega
          have HT1 := Nm.hide (mix_take (m := 54) hc0)
          have HT2 := Nm.hide (mix_take (m := 92) hc0)
          have hx1 : bits .xor .u8 0 54 = (((0 : UInt8) ^^^ 54).toNat : Int) := u8_xor 0 54
          have hx2 : bits .xor .u8 0 92 = (((0 : UInt8) ^^^ 92).toNat : Int) := u8_xor 0 92
          generalize (0 : UInt8) ^^^ 54 = d1 at *
          generalize (0 : UInt8) ^^^ 92 = d2 at *
          clear hidx hsz hc0
          go_wp2_with (first | (at_builtin; refine wpList_append_own_at _ rfl (.tmp 34) (.tmp 37) 22 rfl (w.heap.size + 1) 5 j0 (.int .u8 0) 1 1 Try.underlying22 hj k0 k1 k2 rfl (by decide) _ _ _ rfl (hu.alloc _) ⟨wr.heap.size, 0, none⟩ 1 1 [.int .u8 (d1.toNat : Int)] rfl rfl (cell_one_new _ _ _) (Nm.one_cell _ rfl) (by unfold maxLen; omega) (by omega) (by simp; omega) ?_; intro vb1 wb1 hu1 hg1 hn1 hat1; clear hn1; have hv1 := apr_kept (hv.alloc _) hg1 hap; have hap1 := apr_after hat1 hap (hv.alloc _); have hs1 := hg1.size; rw [World.size_alloc] at hs1; have hBB1 := (hbel.alloc (by omega) _).grown hg1 (by rw [World.size_alloc]; omega) hrowu; obtain ⟨xa1, xc1, rfl⟩ := own_sl hu1; clear hat1) | (at_builtin; refine wpList_append_own_at _ rfl (.tmp 39) (.tmp 42) 22 rfl (w.heap.size + 1) 5 j0 (.int .u8 0) 1 1 Try.underlying22 hj k0 k1 k2 rfl (by decide) _ _ _ rfl (hv1.alloc _) ⟨wb1.heap.size, 0, none⟩ 1 1 [.int .u8 (d2.toNat : Int)] rfl rfl (cell_one_new _ _ _) (Nm.one_cell _ rfl) (by unfold maxLen; omega) (by omega) (by simp; omega) ?_; intro vb2 wb2 hv2 hg2 hn2 hat2; clear hn2; have hu2 := apr_kept (hu1.alloc _) hg2 hap1.symm; have hap2 := (apr_after hat2 hap1.symm (hu1.alloc _)).symm; obtain ⟨ya1, yc1, rfl⟩ := own_sl hv2; clear hat2))
          have hs2 := hg2.size
          rw [World.size_alloc] at hs2
          have hB2 : Below w.heap.size w wb2 := (hBB1.alloc (by omega) _).grown hg2 (by rw [World.size_alloc]; omega) hrowv
          have hkR2 : Blk wb2 w.heap.size (Array.replicate 32 (.int .u8 0)) 71 := by
            have hx1 : Below (w.heap.size + 1) wr wb1 := ((Below.refl _ wr).alloc (by omega) _).grown hg1 (by rw [World.size_alloc]; omega) (fun q hq => (hu.lt q hq).1)
            have hx2 : Below (w.heap.size + 1) wb1 wb2 := ((Below.refl _ wb1).alloc (by omega) _).grown hg2 (by rw [World.size_alloc]; omega) (fun q hq => (hv.lt q hq).1)
            exact (hx2.block _ (by omega)).trans ((hx1.block _ (by omega)).trans hkR)
          rw [← HT1.out] at hu2
          rw [← HT2.out] at hv2
          clear hg1 hg2 hu hv hu1 hv1 hbel hBB1 hkR hap hap1 hrowu hrowv
          go_roundw
          case rel => exact ⟨k + 1, by omega, by go_num, hu2, hv2, hap2, hkR2, hB2⟩
          case measure => simp [intOf]; omega
      · obtain rfl : k = 64 := by omega
        have i2 : ¬ ((64 : Nat) : Int) < 64 := by omega
        have hK64 : (padK kl).length = 64 := padK_len hKl
        rw [show (padK kl).take 64 = padK kl by rw [← hK64]; exact List.take_length] at hu hv
        clear hidx hsz hrowu hrowv i1
        obtain ⟨p1, ep1⟩ : ∃ p1, p1 = (padK kl).map (· ^^^ 54) := ⟨_, rfl⟩
        obtain ⟨p2, ep2⟩ : ∃ p2, p2 = (padK kl).map (· ^^^ 92) := ⟨_, rfl⟩
        rw [← ep1] at hu
        rw [← ep2] at hv
        have HH2 := HH.out
        rw [← ep1, ← ep2] at HH2
        have HH3 := Nm.hide HH2
        have hl1p : p1.length = 64 := by rw [ep1, List.length_map]; exact hK64
        have hl2p : p2.length = 64 := by rw [ep2, List.length_map]; exact hK64
        have HL1 := Nm.hide hl1p
        have HL2 := Nm.hide hl2p
        clear ep1 ep2 HH HH2 hK64 hl1p hl2p hlt hKl
        go_wp2
        clear i2
        obtain ⟨W2, eW2⟩ : ∃ W2, W2 = wr := ⟨_, rfl⟩
        go_loopw [6, 10] (fun u i wr => ∃ k : Nat, k ≤ lb.length ∧ i = .int .i64 k ∧ wr.ownsRow (w.heap.size + 1) 5 1 u (64 + k) (Nm.bys (p1 ++ lb.take k)) ∧ wr.ownsRow (w.heap.size + 1) 5 1 (.slice ya 64 yc) 64 (Nm.bys p2) ∧ Apr u (.slice ya 64 yc) ∧ Blk wr w.heap.size (Array.replicate 32 (.int .u8 0)) 71 ∧ Below w.heap.size w wr) (fun _ i _ => lb.length - (intOf i).toNat)
        case atStart => exact ⟨0, by omega, rfl, by simpa using hu, hv, hap, hkR, hbel⟩
        case round =>
          clear hu hv hap hkR hbel hlw eW2
          obtain ⟨k, hkl, rfl, hu, hv, hap, hkR, hbel⟩ := hrel
          obtain ⟨xa, xc, rfl⟩ := own_sl hu
          have hlw := blk_lt hkR
          by_cases hlt : k < lb.length
          · obtain ⟨c, hc⟩ : ∃ c, lb[k]? = some c := ⟨_, List.getElem?_eq_getElem hlt⟩
            obtain ⟨b, off, rfl, hcell⟩ := hbx (by omega)
            have hcw := hcell k (.int .u8 (c.toNat : Int)) (by simp [Nm.bys, hc])
            have hcr : wr.cell? ⟨b, off + k, none⟩ = some (.int .u8 (c.toNat : Int)) := (hbel.cell (World.block_lt_of_cell? w _ hcw)).trans hcw
            have HT := Nm.hide (show Nm.bys (p1 ++ lb.take (k + 1)) = Nm.bys (p1 ++ lb.take k) ++ [.int .u8 (c.toNat : Int)] by rw [List.take_add_one, hc, ← List.append_assoc, Nm.bys_append]; rfl)
            have i1 : (0 : Int) ≤ (k : Int) := by omega
            have i2 : (k : Int) < (lb.length : Int) := by omega
            clear hbx hcell hcw hc
            go_wp2_with (at_builtin; refine wpList_append_own_at _ rfl (.tmp 50) (.tmp 55) 22 rfl (w.heap.size + 1) 5 j0 (.int .u8 0) 1 1 Try.underlying22 hj k0 k1 k2 rfl (by decide) _ _ _ rfl (hu.alloc _) ⟨wr.heap.size, 0, none⟩ 1 1 [.int .u8 (c.toNat : Int)] rfl rfl (cell_one_new _ _ _) (Nm.one_cell _ rfl) (by unfold maxLen; omega) (by omega) (by simp; omega) ?_; intro vb1 wb1 hu1 hg1 hn1 hat1; clear hn1)
            have hv1 := apr_kept (hv.alloc _) hg1 hap
            have hap1 := apr_after hat1 hap (hv.alloc _)
            have hx1 : Below (w.heap.size + 1) wr wb1 := ((Below.refl _ wr).alloc (by omega) _).grown hg1 (by rw [World.size_alloc]; omega) (fun q hq => (hu.lt q hq).1)
            have hkR1 : Blk wb1 w.heap.size (Array.replicate 32 (.int .u8 0)) 71 := (hx1.block _ (by omega)).trans hkR
            have hbel1 := hbel.trans (hx1.mono (Nat.le_succ _))
            rw [← HT.out] at hu1
            obtain ⟨za, zc, rfl⟩ := own_sl hu1
            clear hg1 hu hv hap hkR hbel hat1 hx1
            go_roundw
            case rel => exact ⟨k + 1, by omega, by go_num, hu1, hv1, hap1, hkR1, hbel1⟩
            case measure => simp [intOf]; omega
          · obtain rfl : k = lb.length := by omega
            have i2 : ¬ (lb.length : Int) < (lb.length : Int) := by omega
            rw [List.take_length] at hu
            have hby : BySl wr (.slice xa (64 + lb.length) xc) (p1 ++ lb) := by
              have e : (p1 ++ lb).length = 64 + lb.length := by rw [List.length_append, HL1.out]
              show CRow _ _ (p1 ++ lb).length _ _
              rw [e]
              exact CRow.of_owns hu
            have hs := specSha256_any _ _ wr hby (by rw [List.length_append, HL1.out]; omega)
            have hs32 : (shaL (p1 ++ lb)).length = 32 := by rw [shaL]; exact outL_len _
            generalize shaL (p1 ++ lb) = sl at *
            have hsB : (byA sl).size = 32 := by rw [byA_size]; exact hs32
            have hinfB : (Try.prog.info? 71).map (·.size) = some (byA sl).size := by rw [hsB]; kernel_rfl
            have HsB := Nm.hide hsB
            have HS := Nm.hide hs32
            clear hby hu hap hsB hs32 hbx
            go_wp2_with fail
            refine hs.mono ?_
            rintro e w1 ⟨rfl, b1⟩
            have hv1 := own_below hv b1
            have hkR1 := blk_below hkR b1
            have hbel1 := Nm.below_two hbel b1
            have hlw1 := blk_lt hkR1
            clear hs hv hkR hbel b1 hlw
            have hnew : ∀ W W' : World, Only W.heap.size (W.alloc (.cells (Array.replicate 32 (.int .u8 0)) 71)) W' → Below W.heap.size W W' := fun W W' o =>
              o.below ((Below.refl _ W).alloc (Nat.le_refl _) _) (Nat.le_refl _) (by rw [World.size_alloc]; omega)
            go_wp2_with (refine wpList_store_blk (.tmp 11) (.tmp 58) 71 rfl rfl rfl w1.heap.size _ _ (blk_new _ _ _) rfl rfl hinfB (by rw [HsB.out]; simp) (byA_one _) ?_; intro w3 k3 o3; have b3 := hnew _ _ o3; clear o3)
            have hv3 := own_below hv1 b3
            have hkR3 := blk_below hkR1 b3
            have hbel3 := Nm.below_two hbel1 b3
            have hqn : w.heap.size ≠ w1.heap.size := by omega
            generalize w1.heap.size = q at *
            clear hv1 hkR1 hbel1 hnew b3 hlw1
            go_loopw [7, 12] (fun v i wr => ∃ k : Nat, k ≤ 32 ∧ i = .int .i64 k ∧ wr.ownsRow (w.heap.size + 1) 5 1 v (64 + k) (Nm.bys (p2 ++ sl.take k)) ∧ Blk wr q (byA sl) 71 ∧ Blk wr w.heap.size (Array.replicate 32 (.int .u8 0)) 71 ∧ Below w.heap.size w wr) (fun _ i _ => 32 - (intOf i).toNat)
            case atStart => exact ⟨0, by omega, rfl, by simpa using hv3, k3, hkR3, hbel3⟩
            case round =>
              clear hv3 k3 hkR3 hbel3
              obtain ⟨k, hkl, rfl, hv, hq, hkR, hbel⟩ := hrel
              obtain ⟨xa, xc, rfl⟩ := own_sl hv
              have hlw := blk_lt hkR
              by_cases hlt : k < 32
              · have hks : k < sl.length := by rw [HS.out]; exact hlt
                obtain ⟨c, hc⟩ : ∃ c, sl[k]? = some c := ⟨_, List.getElem?_eq_getElem hks⟩
                have hcr : wr.cell? ⟨q, k, none⟩ = some (.int .u8 (c.toNat : Int)) := (blk_cell hq k).trans (by simp [byA, hc])
                have HT := Nm.hide (show Nm.bys (p2 ++ sl.take (k + 1)) = Nm.bys (p2 ++ sl.take k) ++ [.int .u8 (c.toNat : Int)] by rw [List.take_add_one, hc, ← List.append_assoc, Nm.bys_append]; rfl)
                have i1 : (0 : Int) ≤ (k : Int) := by omega
                have i2 : (k : Int) < 32 := by omega
                have hqo := row_off hv hq (by decide)
                have hqr := row_off hv hkR (by decide)
                clear hc hks
                go_wp2_with (at_builtin; refine wpList_append_own _ rfl (.tmp 63) (.tmp 67) 22 rfl (w.heap.size + 1) 5 j0 (.int .u8 0) 1 1 Try.underlying22 hj k0 k1 k2 rfl (by decide) _ _ _ rfl (hv.alloc _) ⟨wr.heap.size, 0, none⟩ 1 1 [.int .u8 (c.toNat : Int)] rfl rfl (cell_one_new _ _ _) (Nm.one_cell _ rfl) (by unfold maxLen; omega) (by omega) (by simp; omega) ?_; intro vb1 wb1 hv1 hg1 hn1; clear hn1)
                have hq1 := blk_grown (blk_alloc hq _) hg1 hqo
                have hkR1 := blk_grown (blk_alloc hkR _) hg1 hqr
                have hbel1 : Below w.heap.size w wb1 := (hbel.alloc (by omega) _).grown hg1 (by rw [World.size_alloc]; omega) (fun q hq => by have := (hv.lt q hq).1; omega)
                rw [← HT.out] at hv1
                obtain ⟨za, zc, rfl⟩ := own_sl hv1
                clear hg1 hv hq hkR hbel hqo hqr
                go_roundw
                case rel => exact ⟨k + 1, by omega, by go_num, hv1, hq1, hkR1, hbel1⟩
                case measure => simp [intOf]; omega
              · obtain rfl : k = 32 := by omega
                rw [show ((32 : Nat) : Int) = 32 from rfl]
                rw [show sl.take 32 = sl by rw [← HS.out]; exact List.take_length] at hv
                have hby : BySl wr (.slice xa (64 + 32) xc) (p2 ++ sl) := by
                  have e : (p2 ++ sl).length = 64 + 32 := by rw [List.length_append, HL2.out, HS.out]
                  show CRow _ _ (p2 ++ sl).length _ _
                  rw [e]
                  exact CRow.of_owns hv
                have hs := specSha256_any _ _ wr hby (by rw [List.length_append, HL2.out, HS.out]; omega)
                have hs32 : (shaL (p2 ++ sl)).length = 32 := by rw [shaL]; exact outL_len _
                have HH4 := HH3.out
                generalize shaL (p2 ++ sl) = sm at *
                have hsB : (byA sm).size = 32 := by rw [byA_size]; exact hs32
                have hinfM : (Try.prog.info? 71).map (·.size) = some (byA sm).size := by rw [hsB]; kernel_rfl
                have HsM := Nm.hide hsB
                have HH5 := Nm.hide HH4
                clear hby hq hsB hs32 hv HH3 HH4
                go_wp2_with fail
                refine hs.mono ?_
                rintro e w2 ⟨rfl, b2⟩
                have hkR2 := blk_below hkR b2
                have hbel2 := Nm.below_two hbel b2
                have hsz2 := hbel2.size
                go_wp2_with (refine wpList_store_blk (.tmp 4) (.tmp 70) 71 rfl rfl rfl w.heap.size _ _ hkR2 rfl rfl hinfM (by rw [HsM.out]; simp) (byA_one _) ?_; intro w9 k9 o9)
                have hb9 := o9.below hbel2 (Nat.le_refl _) hsz2
                exact bodyPost_ret (v := .agg _) (run_results_cell Try.results36 rfl k9 Try.underlying71 hinfM) rfl ⟨by rw [HH5.out], hb9⟩
end Go.Proofs.Ytilcbdhcojgcbaa
/- spec.l02Put at any width by its contract. -/
namespace Go.Proofs.Ytilcbdhcojgcbaa
open Go.RowKit
set_option linter.unusedVariables false

theorem bigL_len (v n : Nat) : (bigL v n).length = n := by simp [bigL]
theorem bigL_take {v n j : Nat} (h : j < n) : Nm.bys ((bigL v n).take (j + 1)) = Nm.bys ((bigL v n).take j) ++ [.int .u8 ((v : Int) / 2 ^ (8 * (n - 1 - j)) % 256)] := by
  have hx : (bigL v n)[j]? = some (UInt8.ofNat (v / 2 ^ (8 * (n - 1 - j)))) := by simp [bigL, h]
  have e : ((UInt8.ofNat (v / 2 ^ (8 * (n - 1 - j)))).toNat : Int) = (v : Int) / 2 ^ (8 * (n - 1 - j)) % 256 := by
    rw [UInt8.toNat_ofNat', Int.natCast_emod, Int.natCast_ediv, Int.natCast_pow]
    rfl
  rw [List.take_add_one, hx, Nm.bys_append, ← e]
  rfl

set_option maxRecDepth 100000 in
set_option maxHeartbeats 1600000 in
theorem l02PutN_any (v n : Nat) (w : World) (hv : v ≤ 4611686018427387904) (hn1 : 1 ≤ n) (hn : n ≤ 8) :
    Calls Try.prog 22 #[.int .i64 (v : Int), .int .i64 (n : Int)] w fun e w' => e = .returned (.string ⟨(bigL v n).toArray⟩) ∧ Below w.heap.size w w' := by
  obtain ⟨j0, hj, k0, k1, k2⟩ := info_parts Try.infoBy
  have i3 : (n : Int) ≤ 8 := by omega
  have i4 : (1 : Int) ≤ (n : Int) := by omega
  have hro := World.ownsRow_made (base := w.heap.size) (size := 1) (e := 5) w #[] 0 (Nat.le_refl _) (by decide) rfl
  have hBs := (Below.refl w.heap.size w).alloc (Nat.le_refl _) (.cells #[] 5)
  go_enter Try.func22, Try.ntmps22
  go_wp2
  go_loopw [5, 6] (fun u i wr => ∃ j : Nat, j ≤ n ∧ i = .int .i64 ((n : Int) - 1 - (j : Int)) ∧ wr.ownsRow w.heap.size 5 1 u j (Nm.bys ((bigL v n).take j)) ∧ Below w.heap.size w wr) (fun _ i _ => (intOf i + 1).toNat)
  case atStart => exact ⟨0, by omega, by congr 1; omega, hro, hBs⟩
  case round =>
    clear hro hBs
    obtain ⟨j, hj8, rfl, hown, hbel⟩ := hrel
    obtain ⟨xa, xc, rfl⟩ := own_sl hown
    have hBr := hbel.size
    by_cases hlt : j < n
    · obtain ⟨i, hi⟩ : ∃ i : Nat, (n : Int) - 1 - (j : Int) = (i : Int) := ⟨n - 1 - j, by omega⟩
      have hi7 : i ≤ 7 := by omega
      rw [hi]
      have i1 : (0 : Int) ≤ (i : Int) := by omega
      have i2 : (i : Int) ≤ 7 := by omega
      have HT := Nm.hide (show Nm.bys ((bigL v n).take (j + 1)) = Nm.bys ((bigL v n).take j) ++ [.int .u8 ((v : Int) / 2 ^ (8 * i) % 256)] by
        have h7 : n - 1 - j = i := by omega
        rw [bigL_take hlt, h7])
      have HI := Nm.hide hi
      clear hi
      go_wp2_with (at_builtin; refine wpList_append_own _ rfl (.tmp 14) (.tmp 21) 22 rfl w.heap.size 5 j0 (.int .u8 0) 1 1 Try.underlying22 hj k0 k1 k2 rfl (by decide) _ _ _ rfl (hown.alloc _) ⟨wr.heap.size, 0, none⟩ 1 1 [.int .u8 ((v : Int) / 2 ^ (8 * i) % 256)] rfl rfl (cell_one_new _ _ _) (Nm.one_cell _ rfl) (by unfold maxLen; omega) (by omega) (by simp; omega) ?_; intro vb wb hown8 hgrow8 hnl8; clear hnl8)
      rw [← HT.out] at hown8
      have hrow : ∀ q, Value.ownBlock (.slice xa j xc) = some q → w.heap.size ≤ q := fun q hq => (hown.lt q hq).1
      have hB8 : Below w.heap.size w wb := (hbel.alloc hBr _).grown hgrow8 (by rw [World.size_alloc]; omega) hrow
      obtain ⟨za, zc, rfl⟩ := own_sl hown8
      clear hgrow8 hown hbel
      have hi := HI.out
      go_roundw
      case rel => exact ⟨j + 1, by omega, by go_num, hown8, hB8⟩
      case measure => simp [intOf]
    · obtain rfl : j = n := by omega
      rw [List.take_of_length_le (by rw [bigL_len]; omega)] at hown
      have HC := Nm.conv_own (P := Try.prog) (src := 22) (dst := 9) Try.underlying22 Try.underlying5 Try.underlying9 hown (by omega)
      obtain ⟨g, cap, hv', hcv⟩ := HC
      cases hv'
      have hneg : ¬ (0 : Int) ≤ (j : Int) - 1 - (j : Int) := by omega
      go_wp2
      go_ret
      exact ⟨rfl, hbel⟩
end Go.Proofs.Ytilcbdhcojgcbaa
/- spec.l01Small by its contract. -/
namespace Go.Proofs.Ytilcbdhcojgcbaa
open Go.RowKit

theorem Try.infoU8s : (Try.prog.info? 5).map (fun i => (i.zero, i.size, i.bytes)) = some (some (.int .u8 0), 1, 1) := by kernel_rfl

theorem conv_nil (c : Nat) (W : World) : (convert 22 9 (.slice (some ⟨c, 0, none⟩) 0 0)).run Try.prog W = .ok (.string ByteArray.empty) W := by
  exact run_convert_bytes_back W 22 9 5 ⟨c, 0, none⟩ 0 [] Try.underlying22 Try.underlying5 Try.underlying9 (by intro j hj; simp at hj)

set_option maxRecDepth 100000 in
set_option maxHeartbeats 800000 in
theorem l01Small_any (s : ByteArray) (w : World) (hs : s.size ≤ 1000000000) :
    Calls Try.prog 51 #[.string s] w fun e w' => e = .returned (.string (Nm.small s)) ∧ Below w.heap.size w w' := by
  obtain ⟨j0, hj, k0, k1, k2⟩ := info_parts Try.infoU8s
  by_cases hz : s.size = 0
  · have hc := fun W => conv_nil w.heap.size W
    have HE : Hid (Nm.small s = ByteArray.empty) := by
      show _ = _
      apply Nm.ba_ext
      rw [Nm.small_data, List.length_eq_zero_iff.1 (show s.data.toList.length = 0 by simpa using hz)]
      rfl
    have hz' : (s.size : Int) ≤ 0 := by omega
    go_enter Try.func51, Try.ntmps51
    go_wp2
    go_loop [3, 4] (fun v i => v = .slice (some ⟨w.heap.size, 0, none⟩) 0 0 ∧ i = .int .i64 0) (fun _ _ => 0)
    case atStart => exact ⟨rfl, rfl⟩
    case round =>
      obtain ⟨rfl, rfl⟩ := hrel
      go_wp2
      go_ret
      rw [HE.out]
      exact ⟨rfl, (Below.refl _ _).alloc (Nat.le_refl _) _⟩
  · go_enter Try.func51, Try.ntmps51
    go_wp2
    go_loopw [3, 4] (fun v i wr => ∃ k : Nat, k ≤ s.size ∧ i = .int .i64 k ∧ wr.ownsRow w.heap.size 5 1 v k (Nm.bys (Nm.smallL (s.data.toList.take k))) ∧ Below w.heap.size w wr)
      (fun _ i _ => s.size - (intOf i).toNat)
    case atStart => exact ⟨0, Nat.zero_le _, rfl, World.ownsRow_made w #[] 0 (Nat.le_refl _) (by decide) rfl, (Below.refl _ _).alloc (Nat.le_refl _) _⟩
    case round =>
      obtain ⟨k, hk, rfl, hown, hbel⟩ := hrel
      have hsz := hbel.size
      by_cases hlt : k < s.size
      · have HS := Nm.hide (Nm.smallL_step (Nm.get_data hlt))
        have hcl : (s[k].toNat : Int) < 256 := by have := s[k].toNat_lt; omega
        by_cases hup : 65 ≤ s[k].toNat ∧ s[k].toNat ≤ 90
        · have HL := Nm.hide (Nm.low_up hup)
          have d1 : decide ((65 : Int) ≤ (s[k].toNat : Int)) = true := by simp; omega
          have d2 : decide ((s[k].toNat : Int) ≤ 90) = true := by simp; omega
          have hb1 : (s[k].toNat : Int) ≤ 90 := by omega
          clear hup
          go_wp2_with (at_builtin; refine wpList_append_own _ rfl (.tmp 24) (.tmp 26) 22 rfl w.heap.size 5 j0 (.int .u8 0) 1 1 Try.underlying22 hj k0 k1 k2 rfl (by decide) _ _ _ rfl (hown.alloc _) ⟨wr.heap.size, 0, none⟩ 1 1 [.int .u8 ((s[k].toNat : Int) + 32)] rfl rfl (cell_one_new _ _ _) (Nm.one_cell _ rfl) (by unfold maxLen; omega) (by omega) (by simp; omega) ?_; intro vb wb hown2 hgrow2 hnl2; clear hnl2; rw [← HL.out] at hown2; have R2 := Nm.bys_step (x := [Nm.low s[k]]) (by simp; omega) (hown.alloc _) (hbel.alloc hsz _) hown2 hgrow2; clear hown2 hgrow2)
          go_roundw
          case rel => exact ⟨k + 1, by omega, by go_num, by rw [HS.out]; exact R2.1, R2.2⟩
          case measure => simp [intOf]; omega
        · have HL := Nm.hide (Nm.low_id hup)
          by_cases hlo : 65 ≤ s[k].toNat
          · have d1 : decide ((65 : Int) ≤ (s[k].toNat : Int)) = true := by simp; omega
            have d2 : decide ((s[k].toNat : Int) ≤ 90) = false := by simp; omega
            clear hup
            go_wp2_with (at_builtin; refine wpList_append_own _ rfl (.tmp 24) (.tmp 26) 22 rfl w.heap.size 5 j0 (.int .u8 0) 1 1 Try.underlying22 hj k0 k1 k2 rfl (by decide) _ _ _ rfl (hown.alloc _) ⟨wr.heap.size, 0, none⟩ 1 1 [.int .u8 (s[k].toNat : Int)] rfl rfl (cell_one_new _ _ _) (Nm.one_cell _ rfl) (by unfold maxLen; omega) (by omega) (by simp; omega) ?_; intro vb wb hown2 hgrow2 hnl2; clear hnl2; have R2 := Nm.bys_step (x := [s[k]]) (by simp; omega) (hown.alloc _) (hbel.alloc hsz _) hown2 hgrow2; clear hown2 hgrow2)
            go_roundw
            case rel => exact ⟨k + 1, by omega, by go_num, by rw [HS.out, HL.out]; exact R2.1, R2.2⟩
            case measure => simp [intOf]; omega
          · have d1 : decide ((65 : Int) ≤ (s[k].toNat : Int)) = false := by simp; omega
            clear hup
            go_wp2_with (at_builtin; refine wpList_append_own _ rfl (.tmp 24) (.tmp 26) 22 rfl w.heap.size 5 j0 (.int .u8 0) 1 1 Try.underlying22 hj k0 k1 k2 rfl (by decide) _ _ _ rfl (hown.alloc _) ⟨wr.heap.size, 0, none⟩ 1 1 [.int .u8 (s[k].toNat : Int)] rfl rfl (cell_one_new _ _ _) (Nm.one_cell _ rfl) (by unfold maxLen; omega) (by omega) (by simp; omega) ?_; intro vb wb hown2 hgrow2 hnl2; clear hnl2; have R2 := Nm.bys_step (x := [s[k]]) (by simp; omega) (hown.alloc _) (hbel.alloc hsz _) hown2 hgrow2; clear hown2 hgrow2)
            go_roundw
            case rel => exact ⟨k + 1, by omega, by go_num, by rw [HS.out, HL.out]; exact R2.1, R2.2⟩
            case measure => simp [intOf]; omega
      · have hkl : k = s.size := by omega
        subst hkl
        obtain ⟨g, cp, rfl, hcv⟩ := Nm.conv_own (P := Try.prog) Try.underlying22 Try.underlying5 Try.underlying9 hown (by omega)
        rw [List.take_of_length_le (by simp)] at hcv
        have he : (⟨(Nm.smallL s.data.toList).toArray⟩ : ByteArray) = Nm.small s := rfl
        rw [he] at hcv
        clear hown hlt he
        go_wp2
        go_ret
        exact ⟨rfl, hbel⟩
end Go.Proofs.Ytilcbdhcojgcbaa
/- FoldName, the program's and the model's, by their contracts. -/
namespace Go.Proofs.Ytilcbdhcojgcbaa
open Go.RowKit

theorem set_small {ls : List ByteArray} {k : Nat} {x : ByteArray} (h : ls[k]? = some x) :
    ((ls.take k).map (fun y => Value.string (Nm.small y)) ++ (ls.drop k).map Value.string).set k (.string (Nm.small x)) = (ls.take (k + 1)).map (fun y => Value.string (Nm.small y)) ++ (ls.drop (k + 1)).map Value.string := by
  have hk : k < ls.length := (List.getElem?_eq_some_iff.1 h).1
  have hx : ls[k] = x := (List.getElem?_eq_some_iff.1 h).2
  have hl : ((ls.take k).map (fun y => Value.string (Nm.small y))).length = k := by simp; omega
  rw [Nm.take_step h, List.set_append_right _ _ (by omega), hl, List.drop_eq_getElem_cons hk, hx]
  simp

set_option maxRecDepth 100000 in
set_option maxHeartbeats 800000 in
theorem specFoldName_any (s : ByteArray) (w : World) (hs : s.size ≤ maxLen) :
    Calls Try.prog 34 #[.string s] w fun e w' => e = .returned (.string (Nm.foldS s)) ∧ Below w.heap.size w w' := by
  have hsp := l01Split_any s w hs
  cases hq : Nm.split s with
  | none =>
    have HA := Nm.hide (Nm.foldS_none hq)
    rw [hq] at hsp
    clear hq
    go_enter Try.func34, Try.ntmps34
    go_wp2_with fail
    refine hsp.mono ?_
    rintro e w1 ⟨v, rfl, hown, hbel⟩
    go_wp2
    go_ret
    rw [HA.out]
    exact ⟨rfl, hbel⟩
  | some ls =>
    have hz := Nm.split_size hq
    have HA := Nm.hide (Nm.foldS_some hq)
    have HJ := Nm.hide (Nm.joinL_small hq)
    have hxs := (Nm.split_join hq).2
    have hll := Nm.length_le_wsum ls
    rw [hq] at hsp
    clear hq
    go_enter Try.func34, Try.ntmps34
    go_wp2_with fail
    refine hsp.mono ?_
    rintro e w1 ⟨v, rfl, hown, hbel⟩
    simp only [Option.getD_some] at hown
    clear hsp
    by_cases hn : ls = []
    · subst hn
      have hrow := Nm.SRow.of_owns hown
      obtain ⟨a, cap, rfl, hcap, hmx, hnl, hc⟩ := hrow
      have hr := Nm.SRow.of_owns hown
      clear hown hc hnl
      go_wp2
      go_loop [5] (fun i => i = .int .i64 0) (fun _ => 0)
      case atStart => rfl
      case round =>
        subst hrel
        go_wp2_with (go_at_call 48; refine (l01Join_any _ [] _ hr (by simp [Nm.wsum])).mono ?_; rintro e w2 ⟨rfl, hbel2⟩)
        go_ret
        rw [HA.out, ← HJ.out]
        exact ⟨rfl, Nm.below_two hbel hbel2⟩
    · have hlp : 0 < ls.length := List.length_pos_iff.2 hn
      obtain ⟨g, cap, cur, rfl, hg⟩ : ∃ g cap cur, v = .slice (some ⟨g, 0, none⟩) ls.length cap ∧ w.heap.size ≤ g ∧ ls.length ≤ cap ∧ cap ≤ maxLen ∧ w1.heap[g]? = some (.cells cur 9 (0, 0)) := by
        rcases hown.2 with ⟨rfl, h0⟩ | ⟨g, cap, cur, rfl, hb, hg, hnc, hm, _⟩
        · omega
        · exact ⟨g, cap, cur, rfl, hb, hnc, hm, hg⟩
      obtain ⟨hwg, hnc, hm, _⟩ := hg
      unfold maxLen at hm
      go_wp2
      go_loopw [5] (fun i wr => ∃ k : Nat, k ≤ ls.length ∧ i = .int .i64 k ∧ wr.ownsRow w.heap.size 9 1 (.slice (some ⟨g, 0, none⟩) ls.length cap) ls.length ((ls.take k).map (fun y => Value.string (Nm.small y)) ++ (ls.drop k).map Value.string) ∧ Below w.heap.size w wr)
        (fun i _ => ls.length - (intOf i).toNat)
      case atStart => exact ⟨0, Nat.zero_le _, rfl, by simpa using hown, hbel⟩
      case round =>
        obtain ⟨k, hk, rfl, hownk, hbelk⟩ := hrel
        have hszk := hbelk.size
        clear hown hbel
        by_cases hlt : k < ls.length
        · obtain ⟨x, hx⟩ : ∃ x, ls[k]? = some x := ⟨_, List.getElem?_eq_getElem hlt⟩
          have hxz := hxs x (List.mem_of_getElem? hx)
          have hcx : wr.cell? ⟨g, k, none⟩ = some (.string x) := by
            rw [hownk.cellAt k (by omega), List.getElem?_append_right (by simp; omega)]
            simp [Nat.min_eq_left hk, hx]
          have HSET := Nm.hide (set_small hx)
          go_wp2_with (go_at_call 51; refine (l01Small_any x _ (by omega)).mono ?_; rintro e w3 ⟨rfl, hbel3⟩; have hown3 := hownk.kept (w' := w3) (row := none) ⟨hbel3.os, hbel3.tape, hbel3.output, hbel3.size, fun k hk _ => hbel3.block k hk⟩ (.inr (by simp [Value.ownBlock])); have hst := hown3.stored k (.string (Nm.small x)); rw [HSET.out] at hst; have hfz := hown3.frozenAt k; have hc3 : w3.cell? ⟨g, k, none⟩ = some (.string x) := (hbel3.cell (World.block_lt_of_cell? wr _ hcx)).trans hcx; have HR := Nm.hide hst; have HB : Hid (Below w.heap.size w (w3.setCell ⟨g, k, none⟩ (.string (Nm.small x)))) := (hbelk.trans (hbel3.mono hszk)).setCell hwg _; clear hst hown3)
          go_roundw
          case rel => exact ⟨k + 1, by omega, by go_num, HR.out.1, HB.out⟩
          case measure => simp [intOf]; omega
        · have hkl : k = ls.length := by omega
          subst hkl
          have hr : Nm.SRow wr (.slice (some ⟨g, 0, none⟩) ls.length cap) (ls.map Nm.small) := by
            apply Nm.SRow.of_owns (B := w.heap.size) (e := 9)
            simpa [Function.comp_def] using hownk
          have hws := Nm.wsum_small ls
          clear hownk hlt
          go_wp2_with (go_at_call 48; refine (l01Join_any _ (ls.map Nm.small) _ hr (by omega)).mono ?_; rintro e w2 ⟨rfl, hbel2⟩)
          go_ret
          rw [HA.out, ← HJ.out]
          exact ⟨rfl, Nm.below_two hbelk hbel2⟩
end Go.Proofs.Ytilcbdhcojgcbaa
/- spec.l09Sum by its contract. -/
namespace Go.Proofs.Ytilcbdhcojgcbaa
open Go.RowKit
set_option linter.unusedVariables false

set_option maxRecDepth 100000 in
set_option maxHeartbeats 3200000 in
theorem l09Sum_any (kn sc rq M TM FD : ByteArray) (ml tm fd : List UInt8) (hM : M = ⟨ml.toArray⟩) (hTM : TM = ⟨tm.toArray⟩) (hFD : FD = ⟨fd.toArray⟩) (w : World) (hml : ml.length ≤ 1048576) (htm : tm.length ≤ 1000) (hfd : fd.length ≤ 1000)
    (hkn : kn.size ≤ maxLen) (hfz : (Nm.foldS kn).size ≤ 1000) (hsc : sc.size ≤ 1048576) (hrq : rq.size ≤ 1000) :
    Calls Try.prog 24 #[.agg #[.string kn, .string sc], .string M, .string TM, .string FD, .string rq] w fun e w' => e = .returned (.string ⟨(hmacL sc.data.toList (rqL rq.data.toList ++ ml ++ (Nm.foldS kn).data.toList ++ [0, 255, 0, 0, 0, 0] ++ algL ++ tm ++ fd ++ [0, 0, 0, 0])).toArray⟩) ∧ Below w.heap.size w w' := by
  have k5 := blk_new w #[.string kn, .string sc] 64
  have hB0 := (Below.refl w.heap.size w).alloc (Nat.le_refl _) (.cells #[.string kn, .string sc] 64)
  have hfo := fun W => specFoldName_any kn W hkn
  have hal := fun W => l09Alg_any W
  have hfl : (Nm.foldS kn).data.toList.length = (Nm.foldS kn).size := by simp
  have hrl : rq.data.toList.length = rq.size := by simp
  have HSL := Nm.hide (show sc.data.toList.length = sc.size by simp)
  obtain ⟨hd, ehd⟩ : ∃ hd, hd = rqL rq.data.toList := ⟨_, rfl⟩
  have hdl : hd.length ≤ 1100 := by rw [ehd, rqL]; split <;> simp [big_len] <;> omega
  obtain ⟨HD, eHD⟩ : ∃ HD : ByteArray, HD = ⟨hd.toArray⟩ := ⟨_, rfl⟩
  obtain ⟨C21, a21, e21⟩ := cat_ex hd ml HD M eHD hM (by omega)
  obtain ⟨C25, a25, e25⟩ := cat_ex _ (Nm.foldS kn).data.toList C21 (Nm.foldS kn) e21 (ba_mk _).symm (by simp only [List.length_append]; omega)
  obtain ⟨C26, a26, e26⟩ := cat_ex _ [0, 255, 0, 0, 0, 0] C25 ⟨#[0, 255, 0, 0, 0, 0]⟩ e25 rfl (by simp only [List.length_append, List.length_cons, List.length_nil]; omega)
  obtain ⟨C28, a28, e28⟩ := cat_ex _ algL C26 ⟨algL.toArray⟩ e26 rfl (by simp only [List.length_append, List.length_cons, List.length_nil]; omega)
  obtain ⟨C30, a30, e30⟩ := cat_ex _ tm C28 TM e28 hTM (by simp only [List.length_append, List.length_cons, List.length_nil]; omega)
  obtain ⟨C32, a32, e32⟩ := cat_ex _ fd C30 FD e30 hFD (by simp only [List.length_append, List.length_cons, List.length_nil]; omega)
  obtain ⟨C33, a33, e33⟩ := cat_ex _ [0, 0, 0, 0] C32 ⟨#[0, 0, 0, 0]⟩ e32 rfl (by simp only [List.length_append, List.length_cons, List.length_nil]; omega)
  have hz : (hd ++ ml ++ (Nm.foldS kn).data.toList ++ [0, 255, 0, 0, 0, 0] ++ algL ++ tm ++ fd ++ [0, 0, 0, 0]).length ≤ 1100000 := by simp only [List.length_append, List.length_cons, List.length_nil]; omega
  rw [← ehd]
  generalize hd ++ ml ++ (Nm.foldS kn).data.toList ++ [0, 255, 0, 0, 0, 0] ++ algL ++ tm ++ fd ++ [0, 0, 0, 0] = TX at *
  have HZ33 : Hid (C33.size ≤ 1100000) := by show _ ≤ _; rw [e33, ba_size]; exact hz
  have HL33 : Hid (C33.data.toList = TX) := by show _ = _; rw [e33]
  have HN33 := Nm.hide hz
  have HFD := Nm.hide eHD
  have HED := Nm.hide ehd
  have HRL := Nm.hide hrl
  clear e21 e25 e26 e28 e30 e32 e33 hM hTM hFD hz hfl hrl ehd eHD hkn hdl
  generalize (⟨algL.toArray⟩ : ByteArray) = AG at hal a28
  generalize Nm.foldS kn = FK at *
  by_cases hq : rq.size = 0
  · have hq' : rq.toList.isEmpty = true := by
      have : rq.toList = [] := List.length_eq_zero_iff.1 (by rw [Nm.tl_len]; exact hq)
      simp [this]
    obtain rfl : HD = ⟨#[]⟩ := by rw [HFD.out, HED.out, rqL, if_pos (by rw [HRL.out]; exact hq)]
    have hBq := Below.refl (w.alloc (.cells #[.string kn, .string sc] 64)).heap.size (w.alloc (.cells #[.string kn, .string sc] 64))
    clear hq HFD HED HRL
    go_enter Try.func24, Try.ntmps24
    go_wp2_with (go_at_call 34; refine (hfo _).mono ?_; rintro e w3 ⟨rfl, b3⟩)
    have hB3 := Nm.below_two hBq b3
    clear hBq b3 hfo
    refine (hal _).mono ?_
    rintro e w4 ⟨rfl, b4⟩
    have hB4 := Nm.below_two hB3 b4
    have q1 := (blk_cell (blk_below k5 hB4) 1).trans rfl
    have hBw := Nm.below_two hB0 hB4
    obtain ⟨v5, w5, r5, f5, b5⟩ := FRow.new sc w4 (by omega)
    obtain ⟨v6, w6, r6, f6, b6⟩ := FRow.new C33 w5 (by have := HZ33.out; omega)
    have hk5 := (free_by f5).below b6
    have hk6 := free_by f6
    rw [HL33.out] at hk6
    have hhm := specHmac_any _ _ _ _ w6 hk5 hk6 (by rw [HSL.out]; exact hsc) (by have := HZ33.out; have := HN33.out; omega)
    have hs32 := hmac_len sc.data.toList TX
    have hst := fun W => l09Str_any (hmacL sc.data.toList TX) hs32 W
    generalize hsm : hmacL sc.data.toList TX = sm at *
    have HSM := Nm.hide hsm
    clear hsm
    obtain ⟨x5, y5, rfl⟩ : ∃ a c, v5 = .slice a sc.data.toList.length c := by obtain ⟨_, a, c, e, _⟩ := hk5; exact ⟨a, c, e⟩
    obtain ⟨x6, y6, rfl⟩ : ∃ a c, v6 = .slice a TX.length c := by obtain ⟨_, a, c, e, _⟩ := hk6; exact ⟨a, c, e⟩
    have hB6 := Nm.below_two (Nm.below_two hBw b5) b6
    clear hB3 b4 hal hk5 hk6 f5 f6 b5 b6 hBw hs32 hB4
    go_wp2_with fail
    refine hhm.mono ?_
    rintro e w7 ⟨rfl, b7⟩
    have hB7 := Nm.below_two hB6 b7
    clear r5 r6
    go_wp2_with fail
    refine (hst _).mono ?_
    rintro e w8 ⟨rfl, b8⟩
    go_wp2
    go_ret
    rw [HSM.out]
    exact ⟨rfl, Nm.below_two hB7 b8⟩
  · have hq' : rq.toList.isEmpty = false := by
      have : rq.toList ≠ [] := fun e => hq (by rw [← Nm.tl_len, e]; rfl)
      simpa using this
    have hq2 : ∀ W, Calls Try.prog 22 #[.int .i64 (rq.size : Int), .int .i64 2] W fun e w' => e = .returned (.string ⟨(bigL rq.size 2).toArray⟩) ∧ Below W.heap.size W w' := fun W => l02PutN_any rq.size 2 W (by omega) (by decide) (by decide)
    obtain ⟨C18, a18, e18⟩ := cat_ex (bigL rq.size 2) rq.data.toList ⟨(bigL rq.size 2).toArray⟩ rq rfl (ba_mk _).symm (by simp only [big_len, HRL.out]; omega)
    obtain rfl : HD = C18 := by rw [HFD.out, HED.out, rqL, if_neg (by rw [HRL.out]; exact hq), HRL.out, e18]
    generalize (⟨(bigL rq.size 2).toArray⟩ : ByteArray) = BQ at hq2 a18
    clear hq HFD HED HRL e18
    go_enter Try.func24, Try.ntmps24
    go_wp2_with fail
    refine (hq2 _).mono ?_
    rintro e w1 ⟨rfl, hBq⟩
    have q0 := (blk_cell (blk_below k5 hBq) 0).trans rfl
    clear hq2
    go_wp2_with (go_at_call 34; refine (hfo _).mono ?_; rintro e w3 ⟨rfl, b3⟩)
    have hB3 := Nm.below_two hBq b3
    clear hBq b3 hfo
    refine (hal _).mono ?_
    rintro e w4 ⟨rfl, b4⟩
    have hB4 := Nm.below_two hB3 b4
    have q1 := (blk_cell (blk_below k5 hB4) 1).trans rfl
    have hBw := Nm.below_two hB0 hB4
    obtain ⟨v5, w5, r5, f5, b5⟩ := FRow.new sc w4 (by omega)
    obtain ⟨v6, w6, r6, f6, b6⟩ := FRow.new C33 w5 (by have := HZ33.out; omega)
    have hk5 := (free_by f5).below b6
    have hk6 := free_by f6
    rw [HL33.out] at hk6
    have hhm := specHmac_any _ _ _ _ w6 hk5 hk6 (by rw [HSL.out]; exact hsc) (by have := HZ33.out; have := HN33.out; omega)
    have hs32 := hmac_len sc.data.toList TX
    have hst := fun W => l09Str_any (hmacL sc.data.toList TX) hs32 W
    generalize hsm : hmacL sc.data.toList TX = sm at *
    have HSM := Nm.hide hsm
    clear hsm
    obtain ⟨x5, y5, rfl⟩ : ∃ a c, v5 = .slice a sc.data.toList.length c := by obtain ⟨_, a, c, e, _⟩ := hk5; exact ⟨a, c, e⟩
    obtain ⟨x6, y6, rfl⟩ : ∃ a c, v6 = .slice a TX.length c := by obtain ⟨_, a, c, e, _⟩ := hk6; exact ⟨a, c, e⟩
    have hB6 := Nm.below_two (Nm.below_two hBw b5) b6
    clear hB3 b4 hal hk5 hk6 f5 f6 b5 b6 hBw hs32 hB4
    go_wp2_with fail
    refine hhm.mono ?_
    rintro e w7 ⟨rfl, b7⟩
    have hB7 := Nm.below_two hB6 b7
    clear r5 r6
    go_wp2_with fail
    refine (hst _).mono ?_
    rintro e w8 ⟨rfl, b8⟩
    go_wp2
    go_ret
    rw [HSM.out]
    exact ⟨rfl, Nm.below_two hB7 b8⟩
end Go.Proofs.Ytilcbdhcojgcbaa
/- spec.SameName by its contract. -/
namespace Go.Proofs.Ytilcbdhcojgcbaa
open Go.RowKit

set_option maxRecDepth 100000 in
set_option maxHeartbeats 800000 in
theorem specSameName_any (a b : ByteArray) (w : World) (ha : a.size ≤ maxLen) (hb : b.size ≤ maxLen) :
    Calls Try.prog 23 #[.string a, .string b] w fun e w' => e = .returned (.bool (sameS a b)) ∧ Below w.heap.size w w' := by
  have hsa := specFoldName_any a w ha
  have hsb := fun W => specFoldName_any b W hb
  cases hqa : Nm.split a with
  | none =>
    have HA := Nm.hide (same_left (b := b) hqa)
    rw [Nm.foldS_none hqa] at hsa
    have he : (ByteArray.empty).toList.isEmpty = true := Nm.tl_empty rfl
    clear hqa
    go_enter Try.func23, Try.ntmps23
    go_wp2_with fail
    refine hsa.mono ?_
    rintro e w1 ⟨rfl, hbel⟩
    go_wp2
    go_ret
    rw [HA.out]
    exact ⟨rfl, hbel⟩
  | some xs =>
    rw [Nm.foldS_some hqa] at hsa
    have he := small_pos hqa
    cases hqb : Nm.split b with
    | none =>
      have HA := Nm.hide (same_right (a := a) hqb)
      rw [Nm.foldS_none hqb] at hsb
      have hne : ((Nm.small a).toList == (ByteArray.empty).toList) = false := by
        rw [beq_eq_false_iff_ne]
        intro e
        rw [e] at he
        rw [Nm.tl_empty rfl] at he
        simp at he
      clear hqa hqb
      generalize Nm.small a = x at *
      go_enter Try.func23, Try.ntmps23
      go_wp2_with fail
      refine hsa.mono ?_
      rintro e w1 ⟨rfl, hbel⟩
      go_wp2_with fail
      refine (hsb _).mono ?_
      rintro e w2 ⟨rfl, hbel2⟩
      go_wp2
      go_ret
      rw [HA.out]
      exact ⟨rfl, Nm.below_two hbel hbel2⟩
    | some ys =>
      have HA := Nm.hide (same_some hqa hqb)
      have HE := Nm.hide (small_eq a b)
      rw [Nm.foldS_some hqb] at hsb
      clear hqa hqb
      generalize Nm.small a = x at *
      generalize Nm.small b = y at *
      go_enter Try.func23, Try.ntmps23
      go_wp2_with fail
      refine hsa.mono ?_
      rintro e w1 ⟨rfl, hbel⟩
      go_wp2_with fail
      refine (hsb _).mono ?_
      rintro e w2 ⟨rfl, hbel2⟩
      go_wp2
      go_ret
      rw [HA.out, ← HE.out]
      exact ⟨rfl, Nm.below_two hbel hbel2⟩
end Go.Proofs.Ytilcbdhcojgcbaa
