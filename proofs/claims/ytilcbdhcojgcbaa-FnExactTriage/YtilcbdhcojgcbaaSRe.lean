import Derived.Test.YtilcbdhcojgcbaaJSOp
import Derived.Deep.QuietTactic
import Derived.BigQuiet
/- spec.ReadEdns by its contract. -/
namespace Go.Proofs.Ytilcbdhcojgcbaa
open Go.RowKit
set_option linter.unusedVariables false

/-- What a message's sender can take. -/
structure Ed where
  present : Bool
  size : Int
  ver : Int
  flags : Int
  opts : List (Int × ByteArray)
def edC (E : Ed) (u : Value) : Array Value := #[.bool E.present, .int .i64 E.size, .int .i64 E.ver, .int .i64 E.flags, u]
def ed0 : Ed := ⟨false, 0, 0, 0, []⟩
def edZ : Array Value := #[.bool false, .int .i64 0, .int .i64 0, .int .i64 0, .slice none 0 0]

/-- Bits of a time: the version, the flags. -/
def verI (t : Int) : Int := bits .and .i64 (t / 65536) 255
def flgI (t : Int) : Int := bits .and .i64 t 65535
/-- What a message says; none: it is ill formed. -/
def edR (m : Mg) : Option Ed := if 0 < cntR m.an 41 + cntR m.au 41 ∨ 1 < cntR m.ex 41 then none else match m.ex.find? (fun r => decide (r.ty = 41)) with
  | none => some ed0
  | some r => match optR r.da.data.toList with
    | none => none
    | some os => if r.own.data.toList = [0] then some ⟨true, r.cl, verI r.tt, flgI r.tt, os⟩ else none
def EdPost (R : Option Ed) (w : World) (e : Ending) (w' : World) : Prop := (match R with
  | none => e = .returned (.tuple #[.agg edZ, .int .i64 32])
  | some E => ∃ u, e = .returned (.tuple #[.agg (edC E u), .int .i64 0]) ∧ w'.ownsRow w.heap.size 83 2 u E.opts.length (opVs E.opts)) ∧ Below w.heap.size w w'

theorem re_bad {w W : World} {a : Act} {c : Array Value} (hk : Blk W (w.heap.size + 1) c 40) (hB : Below w.heap.size w W) (h2 : a.tmps[2]?.getD undef = .pointer (some ⟨w.heap.size + 1, 0, none⟩)) (h3 : a.tmps[3]?.getD undef = .int .i64 32) (hd : a.defers = []) (hc : c = edZ) :
    bodyPost Try.prog Try.f10 (EdPost none w) .ret a W := by
  subst hc
  have hl := run_loadVar_row W (w.heap.size + 1) 40 40 edZ (0, 0) _ hk Try.underlying40 rfl (by kernel_rfl)
  refine bodyPost_ret (v := .tuple #[.agg edZ, .int .i64 32]) ?_ hd ⟨rfl, hB⟩
  simp [results, Try.results10, h2, h3, asAddr, hl]
theorem re_back {w W : World} {a : Act} {c : Array Value} {E : Ed} {u : Value} (hk : Blk W (w.heap.size + 1) c 40) (hB : Below w.heap.size w W) (h2 : a.tmps[2]?.getD undef = .pointer (some ⟨w.heap.size + 1, 0, none⟩)) (h3 : a.tmps[3]?.getD undef = .int .i64 0) (hd : a.defers = []) (hc : c = edC E u) (ho : W.ownsRow w.heap.size 83 2 u E.opts.length (opVs E.opts)) :
    bodyPost Try.prog Try.f10 (EdPost (some E) w) .ret a W := by
  subst hc
  have hl := run_loadVar_row W (w.heap.size + 1) 40 40 (edC E u) (0, 0) _ hk Try.underlying40 rfl (by kernel_rfl)
  refine bodyPost_ret (v := .tuple #[.agg (edC E u), .int .i64 0]) ?_ hd ⟨⟨_, rfl, ho⟩, hB⟩
  simp [results, Try.results10, h2, h3, asAddr, hl]

theorem own_only2 {w w' : World} {p B e s m : Nat} {v : Value} {xs : List Value} {cs : Array Value} {T : TypeId} (h : w.ownsRow B e s v m xs) (ho : Only p w w') (hk : Blk w p cs T) (hne : e ≠ T := by decide) : w'.ownsRow B e s v m xs := by
  refine h.kept (row := some p) ⟨ho.os, ho.tape, ho.output, ho.size, fun k hk hne => ho.block k hk (fun e => hne (by rw [e]))⟩ ?_
  rcases h.2 with ⟨rfl, _⟩ | ⟨g, cap, cur, rfl, _, hh, _⟩
  · exact .inl rfl
  · right
    intro e2
    simp only [Value.ownBlock, Option.some.injEq] at e2
    subst e2
    have e3 := hk.symm.trans hh
    injection e3 with e3
    injection e3 with _ e4
    exact hne e4.symm

theorem find_at {xs : List Rr} {p : Rr → Bool} {k : Nat} {x : Rr} (h : ∀ j y, j < k → xs[j]? = some y → p y = false) (hx : xs[k]? = some x) (hp : p x = true) : xs.find? p = some x := by
  obtain ⟨hk, e⟩ := List.getElem?_eq_some_iff.1 hx
  rw [List.find?_eq_some_iff_getElem]
  refine ⟨hp, k, hk, e, fun j hj => ?_⟩
  rw [h j _ hj (List.getElem?_eq_getElem (by omega))]
  rfl
theorem find_no {xs : List Rr} {p : Rr → Bool} (h : ∀ j y, j < xs.length → xs[j]? = some y → p y = false) : xs.find? p = none := by
  rw [List.find?_eq_none]
  intro x hx
  obtain ⟨j, hj, e⟩ := List.getElem_of_mem hx
  rw [h j x hj (by rw [List.getElem?_eq_getElem hj, e])]
  decide

set_option maxRecDepth 100000 in
set_option maxHeartbeats 1600000 in
theorem specReadEdns_any (m : Mg) (q a u x : Value) (w : World) (h : MRow w m q a u x) (hl : m.an.length ≤ 1048576 ∧ m.au.length ≤ 1048576 ∧ m.ex.length ≤ 1048576) (hd : ∀ r ∈ m.ex, r.ty = 41 → r.da.size ≤ 1048576) :
    Calls Try.prog 10 #[.agg (mgV m.hd q a u x)] w (EdPost (edR m) w) := by
  obtain ⟨xq, yq, rfl⟩ : ∃ b c, q = .slice b m.qs.length c := by obtain ⟨_, b, c, e, _⟩ := h.rq; exact ⟨b, c, e⟩
  obtain ⟨xa, ya, rfl⟩ : ∃ b c, a = .slice b m.an.length c := by obtain ⟨_, b, c, e, _⟩ := h.ra; exact ⟨b, c, e⟩
  obtain ⟨xu, yu, rfl⟩ : ∃ b c, u = .slice b m.au.length c := by obtain ⟨_, b, c, e, _⟩ := h.ru; exact ⟨b, c, e⟩
  obtain ⟨xx, yx, rfl⟩ : ∃ b c, x = .slice b m.ex.length c := by obtain ⟨_, b, c, e, _⟩ := h.rx; exact ⟨b, c, e⟩
  have hB0 := (Below.refl w.heap.size w).alloc (Nat.le_refl _) (.cells (mgV m.hd (.slice xq m.qs.length yq) (.slice xa m.an.length ya) (.slice xu m.au.length yu) (.slice xx m.ex.length yx)) 35)
  have hB1 := hB0.alloc hB0.size (.cells edZ 40)
  have kM := blk_alloc (blk_new w (mgV m.hd (.slice xq m.qs.length yq) (.slice xa m.an.length ya) (.slice xu m.au.length yu) (.slice xx m.ex.length yx)) 35) (.cells edZ 40)
  have kE := blk_new (w.alloc (.cells (mgV m.hd (.slice xq m.qs.length yq) (.slice xa m.an.length ya) (.slice xu m.au.length yu) (.slice xx m.ex.length yx)) 35)) edZ 40
  rw [World.size_alloc] at kE
  have hdr : ∀ n, Below w.heap.size w (((w.alloc (.cells (mgV m.hd (.slice xq m.qs.length yq) (.slice xa m.an.length ya) (.slice xu m.au.length yu) (.slice xx m.ex.length yx)) 35)).alloc (.cells edZ 40)).drewN n) := fun n => hB1.trans ⟨rfl, rfl, rfl, Nat.le_refl _, fun _ _ => rfl⟩
  have hca := fun n => l13Count_any _ m.an 41 _ (h.ra.below (hdr n)) hl.1
  have hcu := fun n => l13Count_any _ m.au 41 _ (h.ru.below (hdr n)) hl.2.1
  have hcx := fun n => l13Count_any _ m.ex 41 _ (h.rx.below (hdr n)) hl.2.2
  have hA := cnt_le m.an 41
  have hU := cnt_le m.au 41
  have hX := cnt_le m.ex 41
  obtain ⟨EDR, hEDR⟩ : ∃ R, R = edR m := ⟨_, rfl⟩
  rw [← hEDR]
  rw [edR] at hEDR
  generalize cntR m.an 41 = A at *
  generalize cntR m.au 41 = U at *
  generalize cntR m.ex 41 = X at *
  simp only [mgV, edZ] at *
  by_cases hAU : 0 < A + U
  · rw [if_pos (.inl hAU)] at hEDR
    subst hEDR
    have g1 : decide ((0 : Int) < (A : Int) + (U : Int)) = true := by rw [decide_eq_true_eq]; omega
    clear hcx
    go_enter Try.func10, Try.ntmps10
    go_wp2
    go_quiet ((go_at_call 16; first | with_reducible exact Calls.quiet_of_same (hca _) | with_reducible exact Calls.quiet_of_same (hcu _)))
    have kE1 : Blk (((w.alloc (.cells #[.int .i64 m.hd.id, .bool m.hd.qr, .int .i64 m.hd.op, .bool m.hd.aa, .bool m.hd.tc, .bool m.hd.rd, .bool m.hd.ra, .bool m.hd.z, .bool m.hd.ad, .bool m.hd.cd, .int .i64 m.hd.code, .slice xq m.qs.length yq, .slice xa m.an.length ya, .slice xu m.au.length yu, .slice xx m.ex.length yx] 35)).alloc (.cells #[.bool false, .int .i64 0, .int .i64 0, .int .i64 0, .slice none 0 0] 40)).drewN nq) (w.heap.size + 1) #[.bool false, .int .i64 0, .int .i64 0, .int .i64 0, .slice none 0 0] 40 := kE
    go_wp2_with ((refine wpList_store_blk (.tmp 2) (.tmp 22) 40 rfl rfl rfl (w.heap.size + 1) _ _ kE1 rfl rfl (by kernel_rfl) rfl (by kernel_rfl) ?_; intro wz kz oz))
    exact re_bad kz (oz.below (hdr nq) (by omega) (hdr nq).size) rfl rfl rfl rfl
  · have g1 : decide ((0 : Int) < (A : Int) + (U : Int)) = false := by rw [decide_eq_false_iff_not]; omega
    by_cases hX1 : 1 < X
    · rw [if_pos (.inr hX1)] at hEDR
      subst hEDR
      have g2 : (1 : Int) < (X : Int) := by omega
      go_enter Try.func10, Try.ntmps10
      go_wp2
      go_quiet ((go_at_call 16; first | with_reducible exact Calls.quiet_of_same (hca _) | with_reducible exact Calls.quiet_of_same (hcu _) | with_reducible exact Calls.quiet_of_same (hcx _)))
      have kE1 : Blk (((w.alloc (.cells #[.int .i64 m.hd.id, .bool m.hd.qr, .int .i64 m.hd.op, .bool m.hd.aa, .bool m.hd.tc, .bool m.hd.rd, .bool m.hd.ra, .bool m.hd.z, .bool m.hd.ad, .bool m.hd.cd, .int .i64 m.hd.code, .slice xq m.qs.length yq, .slice xa m.an.length ya, .slice xu m.au.length yu, .slice xx m.ex.length yx] 35)).alloc (.cells #[.bool false, .int .i64 0, .int .i64 0, .int .i64 0, .slice none 0 0] 40)).drewN nq) (w.heap.size + 1) #[.bool false, .int .i64 0, .int .i64 0, .int .i64 0, .slice none 0 0] 40 := kE
      go_wp2_with ((refine wpList_store_blk (.tmp 2) (.tmp 22) 40 rfl rfl rfl (w.heap.size + 1) _ _ kE1 rfl rfl (by kernel_rfl) rfl (by kernel_rfl) ?_; intro wz kz oz))
      exact re_bad kz (oz.below (hdr nq) (by omega) (hdr nq).size) rfl rfl rfl rfl
    · rw [if_neg (by omega)] at hEDR
      have HEDR := Nm.hide hEDR
      have g2 : ¬ (1 : Int) < (X : Int) := by omega
      have hex := h.rx
      clear hEDR h
      go_enter Try.func10, Try.ntmps10
      go_wp2
      go_quiet ((go_at_call 16; first | with_reducible exact Calls.quiet_of_same (hca _) | with_reducible exact Calls.quiet_of_same (hcu _) | with_reducible exact Calls.quiet_of_same (hcx _)))
      clear hca hcu hcx
      have kE1 : Blk (((w.alloc (.cells #[.int .i64 m.hd.id, .bool m.hd.qr, .int .i64 m.hd.op, .bool m.hd.aa, .bool m.hd.tc, .bool m.hd.rd, .bool m.hd.ra, .bool m.hd.z, .bool m.hd.ad, .bool m.hd.cd, .int .i64 m.hd.code, .slice xq m.qs.length yq, .slice xa m.an.length ya, .slice xu m.au.length yu, .slice xx m.ex.length yx] 35)).alloc (.cells #[.bool false, .int .i64 0, .int .i64 0, .int .i64 0, .slice none 0 0] 40)).drewN nq) (w.heap.size + 1) #[.bool false, .int .i64 0, .int .i64 0, .int .i64 0, .slice none 0 0] 40 := kE
      have kM1 : Blk (((w.alloc (.cells #[.int .i64 m.hd.id, .bool m.hd.qr, .int .i64 m.hd.op, .bool m.hd.aa, .bool m.hd.tc, .bool m.hd.rd, .bool m.hd.ra, .bool m.hd.z, .bool m.hd.ad, .bool m.hd.cd, .int .i64 m.hd.code, .slice xq m.qs.length yq, .slice xa m.an.length ya, .slice xu m.au.length yu, .slice xx m.ex.length yx] 35)).alloc (.cells #[.bool false, .int .i64 0, .int .i64 0, .int .i64 0, .slice none 0 0] 40)).drewN nq) w.heap.size #[.int .i64 m.hd.id, .bool m.hd.qr, .int .i64 m.hd.op, .bool m.hd.aa, .bool m.hd.tc, .bool m.hd.rd, .bool m.hd.ra, .bool m.hd.z, .bool m.hd.ad, .bool m.hd.cd, .int .i64 m.hd.code, .slice xq m.qs.length yq, .slice xa m.an.length ya, .slice xu m.au.length yu, .slice xx m.ex.length yx] 35 := kM
      have hb1 := hdr nq
      clear hdr kE kM hB0 hB1 g1 g2
      go_wp2_with fail
      go_loopw [4] (fun i wr => ∃ k : Nat, k ≤ m.ex.length ∧ i = .int .i64 k ∧ Hid (∀ j y, j < k → m.ex[j]? = some y → decide (y.ty = 41) = false) ∧ Blk wr (w.heap.size + 1) #[.bool false, .int .i64 0, .int .i64 0, .int .i64 0, .slice none 0 0] 40 ∧ Blk wr w.heap.size #[.int .i64 m.hd.id, .bool m.hd.qr, .int .i64 m.hd.op, .bool m.hd.aa, .bool m.hd.tc, .bool m.hd.rd, .bool m.hd.ra, .bool m.hd.z, .bool m.hd.ad, .bool m.hd.cd, .int .i64 m.hd.code, .slice xq m.qs.length yq, .slice xa m.an.length ya, .slice xu m.au.length yu, .slice xx m.ex.length yx] 35 ∧ Below w.heap.size w wr) (fun i _ => m.ex.length - (intOf i).toNat)
      case atStart => exact ⟨0, Nat.zero_le _, rfl, by show ∀ _, _; intro j y hj; omega, kE1, kM1, hb1⟩
      case round =>
        clear kE1 kM1 hb1
        obtain ⟨k, hk, rfl, HA, kE, kM, hbel⟩ := hrel
        have hlw := blk_lt kE
        have cM := (blk_cell kM 14).trans rfl
        obtain ⟨_, a', c', e', hcap, hmx, hcc⟩ := hex
        cases e'
        by_cases hlt : k < m.ex.length
        · obtain ⟨r, hrk⟩ : ∃ r, m.ex[k]? = some r := ⟨_, List.getElem?_eq_getElem hlt⟩
          obtain ⟨b, off, rfl, hcell⟩ := hcc (by omega)
          have put : ∀ {O : Nat} {z : Value}, w.cell? ⟨b, O, none⟩ = some z → wr.cell? ⟨b, O, none⟩ = some z := fun h => (hbel.cell (World.block_lt_of_cell? w _ h)).trans h
          obtain ⟨c0, c1, c2, c3, c4⟩ := rv_cells hcell hrk
          replace c0 := put c0
          replace c1 := put c1
          replace c2 := put c2
          replace c3 := put c3
          replace c4 := put c4
          have i1 : (0 : Int) ≤ (k : Int) := by omega
          have i2 : (k : Int) < (m.ex.length : Int) := by omega
          have hrd := hd r (List.mem_of_getElem? hrk)
          have HRK := Nm.hide hrk
          have hBr := (Below.refl wr.heap.size wr).alloc (Nat.le_refl _) (.cells #[.string r.own, .int .i64 r.ty, .int .i64 r.cl, .int .i64 r.tt, .string r.da] 56)
          have kEr := blk_below kE hBr
          have kMr := blk_below kM hBr
          have hbr := Nm.below_two hbel hBr
          clear hcell hcc put hrk kE kM hbel
          by_cases hty : r.ty = 41
          · have e1 : (r.ty != 41) = false := by rw [hty]; rfl
            have HF : Hid (m.ex.find? (fun r => decide (r.ty = 41)) = some r) := find_at HA.out HRK.out (decide_eq_true hty)
            have hop := l13Options_any r.da (wr.alloc (.cells #[.string r.own, .int .i64 r.ty, .int .i64 r.cl, .int .i64 r.tt, .string r.da] 56)) (hrd hty)
            clear hrd
            unfold OpPost at hop
            have kr := blk_new wr #[.string r.own, .int .i64 r.ty, .int .i64 r.cl, .int .i64 r.tt, .string r.da] 56
            obtain ⟨o, ty, cl, tt, da⟩ := r
            simp only at *
            subst hty
            cases hor : optR da.data.toList with
            | none =>
              rw [hor] at hop
              have HE : Hid (EDR = none) := by
                show _ = _
                rw [HEDR.out, HF.out]
                simp only
                rw [hor]
              clear hor
              go_wp2_with fail
              refine hop.mono ?_
              rintro e w5 ⟨rfl, b5⟩
              have kE5 := blk_below kEr b5
              have hb5 := Nm.below_two hbr b5
              clear hop b5 c0 c1 c2 c3 c4
              go_wp2_with ((refine wpList_store_blk (.tmp 2) (.tmp 51) 40 rfl rfl rfl (w.heap.size + 1) _ _ kE5 rfl rfl (by kernel_rfl) rfl (by kernel_rfl) ?_; intro wz kz oz))
              rw [HE.out]
              exact re_bad kz (oz.below hb5 (by omega) hb5.size) rfl rfl rfl rfl
            | some os =>
              rw [hor] at hop
              go_wp2_with fail
              refine hop.mono ?_
              rintro e w5 ⟨⟨v5, rfl, o5⟩, b5⟩
              have kE5 := blk_below kEr b5
              have hb5 := Nm.below_two hbr b5
              have r5 := fun i => blk_cell (blk_below kr b5) i
              obtain ⟨x5, y5, rfl⟩ := own_sl o5
              by_cases ho0 : o.data.toList = [0]
              · have q1 : (o.toList == [0]) = true := by rw [ByteArray.toList_eq, ho0]; rfl
                have q2 : (o.toList != [0]) = false := by rw [ByteArray.toList_eq, ho0]; rfl
                have HE : Hid (EDR = some ⟨true, cl, verI tt, flgI tt, os⟩) := by
                  show _ = _
                  rw [HEDR.out, HF.out]
                  simp only
                  rw [hor]
                  simp only
                  rw [if_pos ho0]
                have HO := Nm.hide (own_base o5 (show w.heap.size ≤ (wr.alloc (.cells #[.string o, .int .i64 41, .int .i64 cl, .int .i64 tt, .string da] 56)).heap.size from hbr.size))
                clear hop b5 c0 c1 c2 c3 c4 hor ho0 o5
                go_wp2_with ((refine wpList_store_blk (.tmp 2) (.tmp 62) 40 rfl rfl rfl (w.heap.size + 1) _ _ kE5 rfl rfl (by kernel_rfl) rfl (by kernel_rfl) ?_; intro wz kz oz))
                rw [HE.out]
                exact re_back kz (oz.below hb5 (by omega) hb5.size) rfl rfl rfl rfl (own_only2 HO.out oz kE5)
              · have q1 : (o.toList == [0]) = false := by rw [ByteArray.toList_eq]; simpa using ho0
                have q2 : (o.toList != [0]) = true := by rw [ByteArray.toList_eq]; simpa using ho0
                have HE : Hid (EDR = none) := by
                  show _ = _
                  rw [HEDR.out, HF.out]
                  simp only
                  rw [hor]
                  simp only
                  rw [if_neg ho0]
                clear hop b5 c0 c1 c2 c3 c4 hor ho0 o5
                go_wp2_with ((refine wpList_store_blk (.tmp 2) (.tmp 51) 40 rfl rfl rfl (w.heap.size + 1) _ _ kE5 rfl rfl (by kernel_rfl) rfl (by kernel_rfl) ?_; intro wz kz oz))
                rw [HE.out]
                exact re_bad kz (oz.below hb5 (by omega) hb5.size) rfl rfl rfl rfl
          · have e1 : (r.ty != 41) = true := by simpa using hty
            have HA2 : Hid (∀ j y, j < k + 1 → m.ex[j]? = some y → decide (y.ty = 41) = false) := by
              show ∀ _, _
              intro j y hj hy
              rcases Nat.lt_or_ge j k with h1 | h1
              · exact HA.out j y h1 hy
              · obtain rfl : j = k := by omega
                rw [HRK.out] at hy
                cases hy
                exact decide_eq_false hty
            clear hty hrd hBr
            obtain ⟨o, ty, cl, tt, da⟩ := r
            simp only at c0 c1 c2 c3 c4 kEr kMr hbr e1
            go_wp2
            go_roundw
            case rel => exact ⟨k + 1, by omega, by go_num, HA2, kEr, kMr, hbr⟩
            case measure => simp [intOf]; omega
        · have hkl : k = m.ex.length := by omega
          subst hkl
          have HE : Hid (EDR = some ed0) := by
            show _ = _
            rw [HEDR.out, find_no HA.out]
          have i2 : ¬ (m.ex.length : Int) < (m.ex.length : Int) := by omega
          clear hcc
          go_wp2_with ((refine wpList_store_blk (.tmp 2) (.tmp 63) 40 rfl rfl rfl (w.heap.size + 1) _ _ kE rfl rfl (by kernel_rfl) rfl (by kernel_rfl) ?_; intro wz kz oz))
          rw [HE.out]
          exact re_back kz (oz.below hbel (by omega) hbel.size) rfl rfl rfl rfl (World.ownsRow_nil _ _ _ _)
end Go.Proofs.Ytilcbdhcojgcbaa
