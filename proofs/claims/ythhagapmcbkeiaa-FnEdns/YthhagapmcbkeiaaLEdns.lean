import Derived.Test.YthhagapmcbkeiaaDrO
import Derived.Test.YthhagapmcbkeiaaJIEr
import Derived.Test.YthhagapmcbkeiaaIRe
import Derived.Test.YthhagapmcbkeiaaJLst
import Derived.Test.YthhagapmcbkeiaaEnI
import Derived.Test.YthhagapmcbkeiaaDc2
import Derived.Test.YthhagapmcbkeiaaJMath
import Derived.Deep.QuietTactic
import Derived.BigQuiet
/- The law FnEdns: its walk. -/
namespace Go.Proofs.Ythhagapmcbkeiaa
open Go.RowKit
set_option linter.unusedVariables false

theorem code_byE {w : World} {a : Option Addr} {cap : Nat} {l : List UInt8} (h : BySl w (.slice a l.length cap) l) : CodeIn w a l.length := by
  obtain ⟨_, a', cap', e, hcap, hmx, hc⟩ := h
  simp only [Value.slice.injEq] at e
  obtain ⟨rfl, _, rfl⟩ := e
  rcases Nat.eq_zero_or_pos l.length with hz | hp
  · exact .inl hz
  · obtain ⟨b, off, rfl, hcell⟩ := hc hp
    refine .inr ⟨b, off, rfl, fun i hi => ⟨(l[i].toNat : Int), hcell i _ (by simp [Nm.bys, hi]), by omega, ?_⟩⟩
    have := l[i].toNat_lt
    omega

/-- A row of one record that has just been laid. -/
theorem one_row (W : World) (r : Rr) : CRow (W.alloc (.cells #[.string r.own, .int .i64 r.ty, .int .i64 r.cl, .int .i64 r.tt, .string r.da] 27)) (.slice (some ⟨W.heap.size, 0, none⟩) 1 1) [r].length 5 (rvVs [r]) := by
  refine ⟨by rw [rvVs_len], _, _, rfl, by simp, by decide, fun _ => ⟨W.heap.size, 0, rfl, ?_⟩⟩
  intro i y hy
  have hk := blk_cell (blk_new W #[.string r.own, .int .i64 r.ty, .int .i64 r.cl, .int .i64 r.tt, .string r.da] 27) i
  rw [Nat.zero_add, hk]
  simpa [rvVs, rvV] using hy
theorem no_row (W : World) (s : Nat) : CRow W (.slice none 0 0) 0 s [] := ⟨by simp, none, 0, rfl, by decide, by decide, fun h => by omega⟩

set_option maxRecDepth 100000 in
set_option maxHeartbeats 6400000 in
theorem fnEdns_walk (a0 : Option Addr) (len0 cap0 : Nat) (z0 : List Int) (w : World) (w0 : RowB w a0 len0 cap0 z0) :
    Calls Try.prog 3 #[.slice a0 len0 cap0] w fun e w' => e = .returned (.bool true) ∧ Below w.heap.size w w' := by
  obtain ⟨l, hlen, hrow⟩ := rowB w0
  by_cases hl : 1048576 < len0
  · have hl' : (1048576 : Int) < (len0 : Int) := by omega
    go_enter Try.func3, Try.ntmps3
    go_wp2
    go_ret
    exact ⟨rfl, Below.refl _ _⟩
  have hl' : (len0 : Int) ≤ 1048576 := by omega
  subst hlen
  have hdr := drawEdnsRecord_any a0 l.length cap0 w (code_byE hrow) (by omega)
  clear w0 hrow
  go_enter Try.func3, Try.ntmps3
  go_wp2_with fail
  refine hdr.mono ?_
  rintro e w1 ⟨sz, c, fl, u, xs, rfl, ho1, hxs, b1⟩
  obtain ⟨ua, uc, rfl⟩ := own_sl ho1
  have hrx : ∀ W, Below w1.heap.size w1 W → CRow W (.slice ua xs.length uc) xs.length 2 (opVs xs) := fun W hW => (CRow.of_owns ho1).below hW
  have hsp := specEdnsRecord_any sz c fl _ xs w1 (hrx w1 (Below.refl _ _)) hxs
  have him := fun W hW => implEdnsRecord_any sz c fl _ xs W (hrx W hW) hxs
  clear hdr ho1
  cases hb : erB sz c fl xs with
  | false =>
    simp only [erP_bad hb, erZ] at hsp him
    go_wp2_with fail
    refine hsp.mono ?_
    rintro e w2 ⟨rfl, b2⟩
    have b2A := b2.alloc b2.size (.cells #[.string ByteArray.empty, .int .i64 0, .int .i64 0, .int .i64 0, .string ByteArray.empty] 27)
    have k2 := blk_new w2 #[.string ByteArray.empty, .int .i64 0, .int .i64 0, .int .i64 0, .string ByteArray.empty] 27
    go_wp2_with fail
    refine (him _ b2A).mono ?_
    rintro e w3 ⟨rfl, b3⟩
    have b13 := Nm.below_two b2A b3
    have b3A := b13.alloc b13.size (.cells #[.string ByteArray.empty, .int .i64 0, .int .i64 0, .int .i64 0, .string ByteArray.empty] 27)
    have r2 := fun i => blk_cell (blk_alloc (blk_below k2 b3) (.cells #[.string ByteArray.empty, .int .i64 0, .int .i64 0, .int .i64 0, .string ByteArray.empty] 27)) i
    clear hsp him b2 b3 k2
    go_wp2
    go_ret
    exact ⟨rfl, Nm.below_two b1 b3A⟩
  | true =>
    have hG := erG_ok hb
    have hrd := fun d f => er_read hb d f
    simp only [erP_ok hb, erA] at hsp him
    obtain ⟨TT, eTT⟩ : ∃ t : Int, t = c * 16777216 + fl := ⟨_, rfl⟩
    obtain ⟨DA, eDA⟩ : ∃ D : ByteArray, D = ⟨(optsL xs).toArray⟩ := ⟨_, rfl⟩
    rw [← eTT, ← eDA] at hsp him
    have eR : erR sz c fl xs = ⟨⟨#[0]⟩, 41, sz, TT, DA⟩ := by rw [erR, ← eTT, ← eDA]
    rw [eR] at hG hrd
    have hDz : DA.size ≤ 65535 := by rw [eDA, ba_size]; exact (erB_parts hb).2.2.2.2
    clear eTT eDA eR hb
    have d1 : (sz != sz) = false := by simp
    have d2 : (TT != TT) = false := by simp
    have d3 : (DA.toList != DA.toList) = false := by simp
    have d4 : (fl != fl) = false := by simp
    go_wp2_with fail
    refine hsp.mono ?_
    rintro e w2 ⟨rfl, b2⟩
    have b2A := b2.alloc b2.size (.cells #[.string ⟨#[0]⟩, .int .i64 41, .int .i64 sz, .int .i64 TT, .string DA] 27)
    have k2 := blk_new w2 #[.string ⟨#[0]⟩, .int .i64 41, .int .i64 sz, .int .i64 TT, .string DA] 27
    go_wp2_with fail
    refine (him _ b2A).mono ?_
    rintro e w3 ⟨rfl, b3⟩
    have b13 := Nm.below_two b2A b3
    have b3A := b13.alloc b13.size (.cells #[.string ⟨#[0]⟩, .int .i64 41, .int .i64 sz, .int .i64 TT, .string DA] 27)
    have k3 := blk_new w3 #[.string ⟨#[0]⟩, .int .i64 41, .int .i64 sz, .int .i64 TT, .string DA] 27
    have r2 := fun i => blk_cell (blk_alloc (blk_below k2 b3) (.cells #[.string ⟨#[0]⟩, .int .i64 41, .int .i64 sz, .int .i64 TT, .string DA] 27)) i
    have r3 := fun i => blk_cell k3 i
    clear hsp him b2 b3 k2 b2A b13
    obtain ⟨G, eG⟩ : ∃ G, G = erG ⟨⟨#[0]⟩, 41, sz, TT, DA⟩ := ⟨_, rfl⟩
    have hmr := one_row (w3.alloc (.cells #[.string ⟨#[0]⟩, .int .i64 41, .int .i64 sz, .int .i64 TT, .string DA] 27)) ⟨⟨#[0]⟩, 41, sz, TT, DA⟩
    rw [World.size_alloc] at hmr
    have hsm : MSmall G := by
      rw [eG]
      refine ⟨by simp [erG], by simp [erG], by simp [erG], fun r hr => ?_, by simp [erG], by simp [erG], by simp [erG], by simp [erG]⟩
      simp only [erG, List.mem_singleton] at hr
      subst hr
      exact ⟨by show (1 : Nat) ≤ 1048576; decide, by show DA.size ≤ 1048576; omega⟩
    have hen := implEncode_any G (.slice none 0 0) (.slice none 0 0) (.slice none 0 0) _ _ (by rw [eG]; exact ⟨no_row _ _, no_row _ _, no_row _ _, hmr⟩) hsm
    have hhd : G.hd = ⟨0, false, 0, false, false, false, false, false, false, false, 0⟩ := by rw [eG]; rfl
    rw [hhd] at hen
    simp only [mgV] at hen
    rw [← eG] at hG hrd
    have hq0 : (mmOf G).an.length = 0 ∧ (mmOf G).au.length = 0 ∧ (mmOf G).ex.length = 1 ∧ (mmOf G).qs.length = 0 := by rw [eG]; exact ⟨rfl, rfl, rfl, rfl⟩
    have hx41 : ∀ r ∈ (mmOf G).ex, r.dat.length ≤ 65535 := by
      rw [eG]
      intro r hr
      simp only [mmOf, erG, List.map_cons, List.map_nil, List.mem_singleton] at hr
      subst hr
      show DA.data.toList.length ≤ 65535
      simpa using hDz
    have b4A := b3A.alloc b3A.size (.cells #[.string ⟨#[0]⟩, .int .i64 41, .int .i64 sz, .int .i64 TT, .string DA] 27)
    have b04 := Nm.below_two b1 b4A
    have hrx4 := hrx _ b4A
    clear hmr hsm hhd eG b1 b3A hrx b4A hDz
    go_wp2_with fail
    refine hen.mono ?_
    rintro e w5 ⟨v5, rfl, ho5, b5⟩
    have b05 := Nm.below_two b04 b5
    have hrx5 := hrx4.below b5
    clear hen b04 hrx4 b5 r2 r3 k3
    obtain ⟨va, vc, rfl⟩ := own_sl ho5
    by_cases hln : (msgW G).1.length ≤ 65535
    · have e1 : enC G = 0 := by rw [enC, if_pos hG, if_pos hln]
      have e2 : enB G = (msgW G).1 := by rw [enB, if_pos hG, if_pos hln]
      obtain ⟨hms, _, _⟩ := msgS_dec hG hln
      rw [e2] at ho5
      rw [e1, e2]
      obtain ⟨B, eB⟩ : ∃ B, B = (msgW G).1 := ⟨_, rfl⟩
      rw [← eB] at ho5 hms hln
      rw [← eB]
      have hde := implDecode_wide _ B w5 (CRow.of_owns ho5) (by omega)
      have HMS := Nm.hide hms
      clear eB hG hms e1 e2
      as_aux_lemma =>
        go_wp2_with fail
        refine hde.mono ?_
        rintro e w6 ⟨b6, ⟨m, p, q, x, y, z, hm, rfl, hL⟩ | ⟨c, hm, rfl⟩⟩
        · rw [HMS.out] at hm
          obtain ⟨rfl, rfl⟩ : mmOf G = m ∧ B.length = p := by injection hm with hm; injection hm with h1 h2; exact ⟨h1, h2⟩
          have b06 := Nm.below_two b05 b6
          have hrx6 := hrx5.below b6
          generalize n16 B 0 = D at *
          generalize n16 B 2 = F at *
          have hr0 := hrd D F
          generalize mmOf G = M at *
          obtain ⟨x1, y1, rfl⟩ := row_val hL.rq
          obtain ⟨x2, y2, rfl⟩ := row_val hL.ra
          obtain ⟨x3, y3, rfl⟩ := row_val hL.ru
          obtain ⟨x4, y4, rfl⟩ := row_val hL.rx
          have bA := (Below.refl w6.heap.size w6).alloc (Nat.le_refl _) (.cells (msA D F (.slice x1 M.qs.length y1) (.slice x2 M.an.length y2) (.slice x3 M.au.length y3) (.slice x4 M.ex.length y4)) 37)
          have kM := blk_new w6 (msA D F (.slice x1 M.qs.length y1) (.slice x2 M.an.length y2) (.slice x3 M.au.length y3) (.slice x4 M.ex.length y4)) 37
          have hre := implReadEdns_any (mgL D F M) _ _ _ _ _ ((mrow_L (d := D) (f := F) hL).below bA) ⟨by simp [mgL]; omega, by simp [mgL]; omega, by simp [mgL]; omega⟩ (by
            intro r hr ht
            simp only [mgL, List.mem_map] at hr
            obtain ⟨r', hr', rfl⟩ := hr
            have := hx41 r' hr'
            simp only [rrL, ba_size]
            omega)
          rw [mgV_L, hr0] at hre
          unfold EdPost at hre
          have b06A := Nm.below_two b06 bA
          have hrx7 := hrx6.below bA
          simp only [msA, edC] at bA kM hre b06A hrx7 ⊢
          clear hL hrd hr0 hx41 hq0 b05 b06 b6 hrx5 hrx6 hm HMS hde ho5 bA
          go_wp2_with (refine wpList_load_blk (.tmp 13) 37 rfl rfl w6.heap.size _ _ kM rfl Try.underlying37 rfl (by kernel_rfl) ?_)
          refine hre.mono ?_
          rintro e w7 ⟨⟨v7, rfl, ho7⟩, b7⟩
          obtain ⟨ea, ec, rfl⟩ := own_sl ho7
          have bE := (Below.refl w7.heap.size w7).alloc (Nat.le_refl _) (.cells #[.bool true, .int .i64 sz, .int .i64 0, .int .i64 fl, .slice ea xs.length ec] 41)
          have kE := blk_new w7 #[.bool true, .int .i64 sz, .int .i64 0, .int .i64 fl, .slice ea xs.length ec] 41
          have hr7 := (CRow.of_owns ho7).below bE
          have hr8 := hrx7.below (Nm.below_two b7 bE)
          have b08 := Nm.below_two b06A (Nm.below_two b7 bE)
          have d5 : ((xs.length : Int) != (xs.length : Int)) = false := by simp
          clear hre b7 bE kM ho7 hrx7 b06A
          as_aux_lemma =>
            go_wp2_with fail
            go_loopw [17] (fun i wr => ∃ k : Nat, k ≤ xs.length ∧ i = .int .i64 k ∧ Blk wr w7.heap.size #[.bool true, .int .i64 sz, .int .i64 0, .int .i64 fl, .slice ea xs.length ec] 41 ∧ CRow wr (.slice ea xs.length ec) xs.length 2 (opVs xs) ∧ CRow wr (.slice ua xs.length uc) xs.length 2 (opVs xs) ∧ Below w.heap.size w wr) (fun i _ => xs.length - (intOf i).toNat)
            case atStart => exact ⟨0, Nat.zero_le _, rfl, kE, hr7, hr8, b08⟩
            case round =>
              clear kE hr7 hr8 b08
              obtain ⟨k, hk, rfl, kE, h7, h8, hb⟩ := hrel
              have cE := (blk_cell kE 4).trans rfl
              by_cases hlt : k < xs.length
              · obtain ⟨x, hxk⟩ : ∃ x, xs[k]? = some x := ⟨_, List.getElem?_eq_getElem hlt⟩
                have HR := Nm.hide (And.intro h7 h8)
                obtain ⟨_, a7, q7, e7, _, _, hc7⟩ := h7
                cases e7
                obtain ⟨g7, o7, rfl, hcell7⟩ := hc7 (by omega)
                obtain ⟨c0, c1⟩ := op_cells hcell7 hxk
                obtain ⟨_, a8, q8, e8, _, _, hc8⟩ := h8
                cases e8
                obtain ⟨g8, o8, rfl, hcell8⟩ := hc8 (by omega)
                obtain ⟨f0, f1⟩ := op_cells hcell8 hxk
                have i1 : (0 : Int) ≤ (k : Int) := by omega
                have i2 : (k : Int) < (xs.length : Int) := by omega
                obtain ⟨xc, xd⟩ := x
                simp only at c0 c1 f0 f1
                have n1 : (xc != xc) = false := by simp
                have n2 : (xd.toList != xd.toList) = false := by simp
                have n3 : (xc == xc) = true := by simp
                have n4 : (xd.toList == xd.toList) = true := by simp
                clear hcell7 hc7 hcell8 hc8 hxk
                go_wp2
                go_quiet (fail)
                have hdr : Below wr.heap.size wr (wr.drewN nq) := ⟨rfl, rfl, rfl, Nat.le_refl _, fun _ _ => rfl⟩
                go_wp2_with fail
                go_roundw
                case rel => exact ⟨k + 1, by omega, by go_num, blk_below kE hdr, HR.out.1.below hdr, HR.out.2.below hdr, Nm.below_two hb hdr⟩
                case measure => simp [intOf]; omega
              · have i2 : ¬ (k : Int) < (xs.length : Int) := by omega
                go_wp2
                go_ret
                exact ⟨rfl, hb⟩
        · rw [HMS.out] at hm
          injection hm
    · have e1 : enC G = 11 := by rw [enC, if_pos hG, if_neg hln]
      rw [e1]
      clear hln hG hrd hq0 hx41 hrx5 e1 ho5
      go_wp2
      go_ret
      exact ⟨rfl, b05⟩
end Go.Proofs.Ythhagapmcbkeiaa
