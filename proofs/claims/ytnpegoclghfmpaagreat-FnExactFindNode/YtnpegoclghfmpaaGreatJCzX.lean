import Derived.Test.YtnpegoclghfmpaaGreatJCzM
import Derived.Test.YtnpegoclghfmpaaGreatJZrS
import Derived.Test.YtnpegoclghfmpaaGreatJBmB
import Derived.Test.YtnpegoclghfmpaaGreatJTbGI
import Derived.Test.YtnpegoclghfmpaaGreatJMsP
import Derived.Test.YtnpegoclghfmpaaGreatJClone
import Derived.Test.YtnpegoclghfmpaaGreatJMath
import Derived.Test.YtnpegoclghfmpaaGreatJBzH
import Derived.Test.YtnpegoclghfmpaaGreatJSSmall
import Derived.RegionTactic
import Derived.BigRegion
import Derived.Test.YtnpegoclghfmpaaGreatJTbBL
import Derived.RangeFuncBox
import Derived.Maps.AppendAt
import Derived.Test.YtnpegoclghfmpaaGreatRows
import Derived.WalkSpells
import Derived.WalkLawsBesides
import Derived.Test.YtnpegoclghfmpaaGreatJCzO
import Derived.Test.YtnpegoclghfmpaaGreatCzC
import Derived.Test.YtnpegoclghfmpaaGreatJSCmp
/- Zones that fit, zones that are the same. -/
namespace Go.Proofs.YtnpegoclghfmpaaGreat
open Go.RowKit
set_option linter.unusedVariables false

theorem cz_ssum {ls : List ByteArray} {x : ByteArray} (h : x ∈ ls) : x.size ≤ ssum ls := by
  induction ls with
  | nil => simp at h
  | cons y ls ih =>
    rcases List.mem_cons.1 h with rfl | h
    · simp only [ssum]; omega
    · have := ih h; simp only [ssum]; omega
theorem cz_fits {ps : List Zp} (h : zsum ps ≤ 1048576) : ∀ p ∈ ps, p.1.own.size ≤ 1048576 ∧ p.1.da.length ≤ 1048576 ∧ ∀ x ∈ p.1.da, x.size ≤ 1048576 := by
  intro p hp
  have h1 := zsum_mem ps p hp
  unfold zs1 at h1
  exact ⟨by omega, by omega, fun x hx => by have := cz_ssum hx; omega⟩
theorem cz_mem {ps qs : List Zp} (h : qs.map (·.1) = ps.map (·.1)) {P : Sz → Prop} (hp : ∀ p ∈ ps, P p.1) : ∀ q ∈ qs, P q.1 := by
  intro q hq
  have : q.1 ∈ qs.map (·.1) := List.mem_map.2 ⟨q, hq, rfl⟩
  rw [h] at this
  obtain ⟨p, hp1, hp2⟩ := List.mem_map.1 this
  rw [← hp2]
  exact hp p hp1
theorem zOK_same {ps qs : List Zp} (h : qs.map (·.1) = ps.map (·.1)) (o : ByteArray) : zOK qs o = zOK ps o := by
  rw [zOK, zOK, zoneRecs_same h, h]
/-- Whether a name is there, as the tree tells it. -/
def thT (lab : List ByteArray) (os : List GOw) : Bool := match os[posOf (oCmp lab) os]? with
  | some o => underB o.lab lab
  | none => false
theorem under_self {a b : List ByteArray} (h : Nm.cmpLs a b = 0) : underB a b = true := by
  rw [underB_same h (b := b) (b' := b) ((cmpLs_zero _ _).2 rfl), underB]
  simp [(cmpLs_zero b b).2 rfl]
theorem thT_iff {os : List GOw} (h : OwS os) (lab : List ByteArray) : thT lab os = true ↔ ∃ o ∈ os, underB o.lab lab = true := by
  have hmono := mono_of_pair (f := oCmp lab) h (fun a b hab hb => cmpLs_lt_trans hab hb)
  obtain ⟨f1, f2, f3⟩ := posOf_fnd os hmono
  rw [thT]
  constructor
  · cases hq : os[posOf (oCmp lab) os]? with
    | none => intro h; cases h
    | some o => intro hu; exact ⟨o, List.mem_of_getElem? hq, hu⟩
  · rintro ⟨o, ho, hu⟩
    obtain ⟨k, hk⟩ := List.getElem?_of_mem ho
    have hkl := List.getElem?_eq_some_iff.1 hk
    have hle := under_le hu
    have hkp : posOf (oCmp lab) os ≤ k := by
      rcases Nat.lt_or_ge k (posOf (oCmp lab) os) with h1 | h1
      · have := f2 k h1
        rw [cfOf_at hk, oCmp] at this
        have h2 := cmpLs_anti lab o.lab
        omega
      · exact h1
    have hpl : posOf (oCmp lab) os < os.length := by have := hkl.1; omega
    have hq : os[posOf (oCmp lab) os]? = some os[posOf (oCmp lab) os] := List.getElem?_eq_getElem hpl
    have hge := f3 _ (Nat.le_refl _) hpl
    rw [cfOf_at hq, oCmp] at hge
    rw [hq]
    show underB _ lab = true
    rcases Nat.lt_or_eq_of_le hkp with h1 | h1
    · have hlt := List.pairwise_iff_getElem.1 h _ k hpl hkl.1 h1
      rw [hkl.2] at hlt
      rcases Int.lt_or_le 0 (Nm.cmpLs os[posOf (oCmp lab) os].lab lab) with h2 | h2
      · exact under_mid hu (by have := cmpLs_anti lab os[posOf (oCmp lab) os].lab; omega) hlt
      · exact under_self (by omega)
    · have : os[posOf (oCmp lab) os] = o := by
        rw [← hkl.2]
        congr 1
      rw [this]
      exact hu

set_option maxRecDepth 100000 in
set_option maxHeartbeats 800000 in
theorem isThere_any (bb oo th : Nat) (rv : Value) (os : List GOw) (B : Nat) (na : Option Addr) (nl nc : Nat) (lab : List ByteArray) (w : World) (h : TrAt w B th rv os) (hl : os.length ≤ 500000) (hd : TrS os) (hLab : LabAt w (fpT th rv os) os) (hn : Nm.SRow w (.slice na nl nc) lab) (hnl : lab.length ≤ 1000000000) (hc : w.cell? ⟨bb, oo + 1, none⟩ = some (ptr th)) (hbb : bb < w.heap.size) :
    Calls Tryz.prog 119 #[.pointer (some ⟨bb, oo, none⟩), .slice na nl nc] w fun e w' => e = .returned (.bool (thT lab os)) ∧ Below w.heap.size w w' := by
  have hdl : (owRs os).length = os.length := by simp [owRs]
  have hcf : ∀ (tb i : Nat) (p : Value × Value), (owRs os)[i]? = some p → ∀ W, Below w.heap.size w W → Blk W tb #[.pointer (some ⟨th, 0, none⟩)] 104 → Calls Tryz.prog 142 #[.agg #[p.1, p.2], .slice na nl nc, .pointer (some ⟨tb, 0, none⟩)] W fun e w' => e = .returned (.int .i64 (cfOf (oCmp lab) os i)) ∧ Below W.heap.size W w' := by
    intro tb i p hp W hW kb
    simp only [owRs, List.getElem?_map, Option.map_eq_some_iff] at hp
    obtain ⟨q, hq, rfl⟩ := hp
    rw [cfOf_at hq]
    have hq2 := hLab q (List.mem_of_getElem? hq)
    exact place1L_any tb th rv (ptr q.blk) q.lv (.slice na nl nc) q.lab lab W kb (blk_below h.head hW) (hq2.row.below hW) (hn.below hW) hq2.fit.1 hq2.fit.2 hnl
  have hmono := mono_of_pair (f := oCmp lab) hd.1 (fun a b hab hb => cmpLs_lt_trans hab hb)
  have hfnd := posOf_fnd os hmono
  have hrow : CRow w rv (owRs os).length 2 (rowCs (owRs os)) := CRow.of_owns h.rows
  have hpl := placeL_any th cmpLv rv (.slice na nl nc) (owRs os) (cfOf (oCmp lab) os) w h.head hrow (by omega) hcf (by rw [hdl]; exact hmono)
  rw [hdl] at hpl
  have HU : Hid (∀ (q : GOw) (hq : q ∈ os) W (hW : Below w.heap.size w W), Calls Tryz.prog 79 #[q.lv, .slice na nl nc] W fun e w' => e = .returned (.bool (underB q.lab lab)) ∧ Below W.heap.size W w') := fun q hq W hW => (under_any q.lv (.slice na nl nc) q.lab lab W ((hLab q hq).row.below hW) (hn.below hW) (hLab q hq).fit.1 (hLab q hq).fit.2 hnl).mono (by rintro e w' ⟨he, m, rfl⟩; exact ⟨he, Go.below_drewN (Below.refl _ _) _⟩)
  have HV : Hid (∀ q ∈ os, ∃ a n c, q.lv = .slice a n c) := fun q hq => by obtain ⟨a, c, e, _⟩ := (hLab q hq).row; exact ⟨a, _, c, e⟩
  have HR := Nm.hide (fun W (hW : Below w.heap.size w W) => And.intro (blk_below h.head hW) (hrow.below hW))
  have HC : Hid (∀ W, Below w.heap.size w W → W.cell? ⟨bb, oo + 1, none⟩ = some (ptr th)) := fun W hW => by rw [← hc]; exact hW.cell (p := ⟨bb, oo + 1, none⟩) hbb
  have HF := Nm.hide hfnd
  unfold ptr at hc HC
  clear h hd hLab hn hcf hmono hfnd hrow
  go_enter Tryz.func119, Tryz.ntmps119
  go_wp2_with fail
  refine hpl.mono ?_
  rintro e w1 ⟨k, hk, rfl, b1⟩
  have hkk : k = posOf (oCmp lab) os := Fnd.unique hk HF.out
  have HT : Hid (thT lab os = match os[k]? with | some o => underB o.lab lab | none => false) := by show _ = _; rw [thT, hkk]
  obtain ⟨kh, kr⟩ := HR.out w1 b1
  have hc1 := HC.out w1 b1
  have rh := fun i => blk_cell kh i
  obtain ⟨_, ra, rc, rfl, _, _, hrc⟩ := kr
  rw [hdl] at *
  have n0 : (0 : Int) ≤ (k : Int) := by omega
  generalize (decide (k < os.length) && decide (cfOf (oCmp lab) os k = 0)) = FB at *
  clear hpl hk hkk HF hc kh
  by_cases hlt : k < os.length
  · obtain ⟨q, hq⟩ : ∃ q, os[k]? = some q := ⟨_, List.getElem?_eq_getElem hlt⟩
    have hqm := List.mem_of_getElem? hq
    obtain ⟨b, off, rfl, hcell⟩ := hrc (by omega)
    have d0 := hcell (k * 2) _ ((rowCs_at (owRs os) k 0 (q.lv, ptr q.blk) (by simp [owRs, hq]) (by decide)).trans rfl)
    have hun := HU.out q hqm w1 b1
    obtain ⟨qa, qn, qc, hqv⟩ := HV.out q hqm
    rw [hqv] at d0 hun
    have n2 : (k : Int) < (os.length : Int) := by omega
    have HE : Hid (thT lab os = underB q.lab lab) := by show _ = _; rw [HT.out, hq]
    generalize underB q.lab lab = UB at *
    clear hcell hrc hq hqv HT HU HV hqm HR HC
    go_wp2_with fail
    refine hun.mono ?_
    rintro e w2 ⟨rfl, b2⟩
    go_wp2
    go_ret
    exact ⟨by rw [HE.out]; rfl, Nm.below_two b1 b2⟩
  · have n2 : (os.length : Int) ≤ (k : Int) := by omega
    have HE : Hid (thT lab os = false) := by show _ = _; rw [HT.out, List.getElem?_eq_none (by omega)]
    clear hrc HT HU HV HR HC
    go_wp2
    go_ret
    exact ⟨by rw [HE.out]; rfl, b1⟩
/-- The first of a name and its ancestors that is there. -/
def cloT (os : List GOw) : List ByteArray → List ByteArray
  | [] => []
  | x :: xs => if thT (x :: xs) os = true then x :: xs else cloT os xs
theorem clo_stop {os : List GOw} {y : List ByteArray} (h : thT y os = true) : cloT os y = y := by
  cases y with
  | nil => rfl
  | cons x xs => rw [cloT, if_pos h]
theorem clo_go {os : List GOw} {y : List ByteArray} (h : thT y os = false) (hex : ∃ j, j ≤ y.length ∧ thT (y.drop j) os = true) : 0 < y.length ∧ cloT os y = cloT os (y.drop 1) ∧ ∃ j, j ≤ (y.drop 1).length ∧ thT ((y.drop 1).drop j) os = true := by
  obtain ⟨j, hj, ht⟩ := hex
  cases j with
  | zero => rw [List.drop_zero, h] at ht; cases ht
  | succ j =>
    cases y with
    | nil => simp at hj
    | cons x xs =>
      refine ⟨by simp, ?_, j, by simpa using hj, by simpa using ht⟩
      rw [cloT, if_neg (by rw [h]; decide)]
      rfl
def slLenT : Value → Nat
  | .slice _ k _ => k
  | _ => 0
theorem srow_oneT {w : World} {b off n cap : Nat} {y : List ByteArray} (h : Nm.SRow w (.slice (some ⟨b, off, none⟩) n cap) y) (hn : 0 < n) : n = y.length ∧ n ≤ cap ∧ (cap = 1 → Nm.SRow w (.slice (some ⟨b, off, none⟩) 0 0) (y.drop 1)) ∧ Nm.SRow w (.slice (some ⟨b, off + 1, none⟩) (n - 1) (cap - 1)) (y.drop 1) := by
  have e : n = y.length := by
    obtain ⟨a', cap', e, _⟩ := h
    simp only [Value.slice.injEq] at e
    exact e.2.1
  have hc : n ≤ cap := by
    obtain ⟨a', cap', e2, h1, _⟩ := h
    simp only [Value.slice.injEq] at e2
    omega
  subst e
  refine ⟨rfl, hc, fun hcap => ?_, h.drop (k := 1) (by omega)⟩
  have := h.drop_all hcap
  rw [show y.length - 1 = 0 by omega] at this
  exact this
theorem srow_atT {w : World} {v : Value} {y : List ByteArray} (h : Nm.SRow w v y) (hy : 0 < y.length) : ∃ b off cap, v = .slice (some ⟨b, off, none⟩) y.length cap := by
  obtain ⟨a, cap, rfl, _, _, _, hc⟩ := h
  obtain ⟨b, off, rfl, _⟩ := hc (by intro e; subst e; simp at hy)
  exact ⟨b, off, cap, rfl⟩

set_option maxRecDepth 100000 in
set_option maxHeartbeats 800000 in
theorem treeClosest_any (bb oo th : Nat) (rv : Value) (os : List GOw) (B : Nat) (nv : Value) (lab : List ByteArray) (w : World) (h : TrAt w B th rv os) (hl : os.length ≤ 500000) (hd : TrS os) (hLab : LabAt w (fpT th rv os) os) (hn : Nm.SRow w nv lab) (hnl : lab.length ≤ 1000) (hc : w.cell? ⟨bb, oo + 1, none⟩ = some (ptr th)) (hbb : bb < w.heap.size) (hex : ∃ j, j ≤ lab.length ∧ thT (lab.drop j) os = true) :
    Calls Tryz.prog 85 #[.pointer (some ⟨bb, oo, none⟩), nv] w fun e w' => ∃ v, e = .returned v ∧ Nm.SRow w' v (cloT os lab) ∧ Below w.heap.size w w' := by
  have HI : Hid (∀ W, Below w.heap.size w W → ∀ a n c y, Nm.SRow W (.slice a n c) y → y.length ≤ 1000 → Calls Tryz.prog 119 #[.pointer (some ⟨bb, oo, none⟩), .slice a n c] W fun e w' => e = .returned (.bool (thT y os)) ∧ Below W.heap.size W w') := fun W hW a n c y hy hyl => isThere_any bb oo th rv os B a n c y W (h.below hW) hl hd (fun o ho => (hLab o ho).outs (Outs.below hW) (fun b hb => .inl hb)) hy (by omega) (by rw [← hc]; exact hW.cell (p := ⟨bb, oo + 1, none⟩) hbb) (by have := hW.size; omega)
  obtain ⟨R, hR⟩ : ∃ R, R = cloT os lab := ⟨_, rfl⟩
  rw [← hR]
  have HS := Nm.hide (And.intro hn (And.intro hR.symm hex))
  obtain ⟨na, nc, rfl, _⟩ := hn
  clear h hd hLab hc hex hR
  go_enter Tryz.func85, Tryz.ntmps85
  go_wp2
  go_loopw [1] (fun v wr => ∃ y : List ByteArray, Nm.SRow wr v y ∧ y.length ≤ 1000 ∧ cloT os y = R ∧ (∃ j, j ≤ y.length ∧ thT (y.drop j) os = true) ∧ Below w.heap.size w wr) (fun v _ => slLenT v)
  case atStart => exact ⟨_, HS.out.1, hnl, HS.out.2.1, HS.out.2.2, Below.refl _ _⟩
  case round =>
    obtain ⟨y, hy, hyl, hyR, hyx, hbel⟩ := hrel
    have HY := Nm.hide (And.intro hyR hyx)
    have HY2 := Nm.hide hy
    obtain ⟨ya, yc, rfl, _⟩ := hy
    have hit := HI.out _ hbel _ _ _ y HY2.out hyl
    clear hyR hyx
    cases hU : thT y os with
    | true =>
      rw [hU] at hit
      have HN := Nm.hide (clo_stop hU)
      clear hU
      go_wp2_with fail
      refine hit.mono ?_
      rintro e w1 ⟨rfl, b1⟩
      go_wp2
      go_ret
      refine ⟨_, rfl, ?_, Nm.below_two hbel b1⟩
      rw [← HY.out.1, HN.out]
      exact HY2.out.below b1
    | false =>
      rw [hU] at hit
      obtain ⟨hpos, hgo, hex2⟩ := clo_go hU HY.out.2
      have HG := Nm.hide (And.intro hgo hex2)
      clear hU hgo hex2
      obtain ⟨yb, yo, yc2, ev⟩ := srow_atT HY2.out hpos
      simp only [Value.slice.injEq, true_and] at ev
      obtain ⟨rfl, rfl⟩ := ev
      have hone := srow_oneT HY2.out hpos
      have hcl := hone.2.1
      have HO := Nm.hide hone
      clear hone
      have hl1 : (1 : Int) ≤ (y.length : Int) := by omega
      by_cases hc1 : yc = 1
      · subst hc1
        have HS1 := Nm.hide (HO.out.2.2.1 rfl)
        go_wp2_with (go_at_call 119; refine hit.mono ?_; rintro e w1 ⟨rfl, b1⟩)
        go_roundw
        case rel => exact ⟨y.drop 1, HS1.out.below b1, by simp; omega, by rw [← HG.out.1]; exact HY.out.1, HG.out.2, Nm.below_two hbel b1⟩
        case measure => simp only [slLenT]; omega
      · have hgt : 1 < yc := by omega
        go_wp2_with (go_at_call 119; refine hit.mono ?_; rintro e w1 ⟨rfl, b1⟩)
        go_roundw
        case rel => exact ⟨y.drop 1, (HO.out.2.2.2).below b1, by simp; omega, by rw [← HG.out.1]; exact HY.out.1, HG.out.2, Nm.below_two hbel b1⟩
        case measure => simp only [slLenT]; omega
/-- The highest cut of a name, of its ancestors that are so many labels short. -/
def cutT (os : List GOw) (lab : List ByteArray) : Nat → Option GOw
  | 0 => none
  | n + 1 => if hasT (lab.drop n) 2 os = true then os[posOf (oCmp (lab.drop n)) os]? else cutT os lab n
def cutV : Option GOw → Value
  | some o => .tuple #[ptr o.blk, .bool true]
  | none => .tuple #[.pointer none, .bool false]

set_option maxRecDepth 100000 in
set_option maxHeartbeats 1600000 in
theorem treeCut_any (bb oo th : Nat) (rv : Value) (os : List GOw) (B : Nat) (na : Option Addr) (nc : Nat) (lab : List ByteArray) (aa : Option Addr) (an ac : Nat) (w : World) (h : TrAt w B th rv os) (hl : os.length ≤ 500000) (hd : TrS os) (hLab : LabAt w (fpT th rv os) os) (hn : Nm.SRow w (.slice na lab.length nc) lab) (hnl : lab.length ≤ 1000) (hc : w.cell? ⟨bb, oo + 1, none⟩ = some (ptr th)) (hca : w.cell? ⟨bb, oo, none⟩ = some (.slice aa an ac)) (hbb : bb < w.heap.size) (han : an ≤ lab.length) :
    Calls Tryz.prog 87 #[.pointer (some ⟨bb, oo, none⟩), .slice na lab.length nc] w fun e w' => e = .returned (cutV (cutT os lab (lab.length - an))) ∧ Below w.heap.size w w' := by
  have HG : Hid (∀ W, Below w.heap.size w W → ∀ a n c y, Nm.SRow W (.slice a n c) y → y.length ≤ 1000 → Calls Tryz.prog 72 #[ptr th, .slice a n c] W fun e w' => Below W.heap.size W w' ∧ ((isIn (oCmp y) os = true ∧ ∃ o, os[posOf (oCmp y) os]? = some o ∧ Nm.cmpLs o.lab y = 0 ∧ e = .returned (.tuple #[ptr o.blk, .bool true])) ∨ (isIn (oCmp y) os = false ∧ e = .returned (.tuple #[.pointer none, .bool false])))) := fun W hW a n c y hy hyl => getOwner_any th rv os B (.slice a n c) y W (h.below hW) hl hd.1 (fun o ho => (hLab o ho).outs (Outs.below hW) (fun b hb => .inl hb)) hy (by omega)
  have HH : Hid (∀ o ∈ os, ∀ W, Below w.heap.size w W → Calls Tryz.prog 120 #[ptr o.blk, .int .i64 2] W fun e w' => e = .returned (.bool (isIn (sCmp 2) o.ss)) ∧ Below W.heap.size W w') := fun o ho W hW => ownerHas_any o B 2 W ((h.below hW).owners o ho) (by have := (hd.2 o ho).2.1; omega) (hd.2 o ho).1
  have HC : Hid (∀ W, Below w.heap.size w W → W.cell? ⟨bb, oo + 1, none⟩ = some (ptr th)) := fun W hW => by rw [← hc]; exact hW.cell (p := ⟨bb, oo + 1, none⟩) hbb
  have HS := Nm.hide hn
  unfold ptr at HG HH HC
  have hcn : lab.length ≤ nc := by obtain ⟨a', c', e2, h1, _⟩ := hn; simp only [Value.slice.injEq] at e2; omega
  obtain ⟨R, hR⟩ : ∃ R, R = cutT os lab (lab.length - an) := ⟨_, rfl⟩
  rw [← hR]
  have HR := Nm.hide hR
  clear h hd hLab hc hn hR
  have e1 : (lab.length : Int) - (an : Int) - 1 = (((lab.length - an : Nat) : Int)) - 1 := by omega
  have HE1 := Nm.hide e1
  clear e1
  go_enter Tryz.func87, Tryz.ntmps87
  go_wp2
  go_loopw [6] (fun i wr => ∃ n : Nat, n ≤ lab.length ∧ i = .int .i64 ((n : Int) - 1) ∧ cutT os lab n = R ∧ Below w.heap.size w wr) (fun i _ => (intOf i + 1).toNat)
  case atStart => exact ⟨lab.length - an, by omega, by rw [← HE1.out], HR.out.symm, Below.refl _ _⟩
  case round =>
    obtain ⟨n, hnn, rfl, hcR, hbel⟩ := hrel
    cases n with
    | zero =>
      have HQ : Hid (R = none) := by show _ = _; rw [← hcR]; rfl
      have i0 : ((0 : Nat) : Int) - 1 < 0 := by omega
      clear hcR
      go_wp2
      go_ret2
      exact ⟨by rw [HQ.out]; rfl, hbel⟩
    | succ n =>
      have e2 : ((n + 1 : Nat) : Int) - 1 = (n : Int) := by omega
      rw [e2]
      have HCR := Nm.hide hcR
      have i0 : (0 : Int) ≤ (n : Int) := by omega
      have i1 : (n : Int) ≤ (lab.length : Int) := by omega
      have i2 : n < nc := by omega
      clear hcR e2
      obtain ⟨b, off, cap, ev⟩ := srow_atT HS.out (by omega)
      simp only [Value.slice.injEq, true_and] at ev
      obtain ⟨rfl, rfl⟩ := ev
      have hsr : Nm.SRow wr.drew (.slice (some ⟨b, off + n, none⟩) (lab.length - n) (nc - n)) (lab.drop n) := by
        have := (HS.out.drop (k := n) (by omega)).below hbel.drew
        simp only [Option.map_some, Nm.addr_add] at this
        exact this
      have i3 : ¬ nc = n := by omega
      have hc1 := HC.out _ hbel
      go_wp2
      refine wp_region_last (fun X => X.cell? ⟨bb, oo + 1, none⟩ = some (.pointer (some ⟨th, 0, none⟩))) 1000 (by kernel_rfl) (HC.out _ hbel.drew) (fun hHeld => ?_)
      refine wpAnyL_take (i := 0) (v := ?_) rfl (by kernel_rfl) (by kernel_rfl) (by kernel_rfl) (by kernel_rfl) (fun _ _ _ h => h) (Or.inl ⟨by rfl, ?_⟩) (by assumption) ?_
      rotate_left 1
      · (intro W hSW; go_simp; try (with_reducible rfl))
      refine wpAnyL_take (i := 1) (v := ?_) rfl (by kernel_rfl) (by kernel_rfl) (by kernel_rfl) (by kernel_rfl) (fun _ _ _ h => h) (Or.inl ⟨by rfl, ?_⟩) (by assumption) ?_
      rotate_left 1
      · (intro W hSW; go_simp; try (with_reducible rfl))
      refine wpAnyL_take (i := 2) (v := ?_) rfl (by kernel_rfl) (by kernel_rfl) (by kernel_rfl) (by kernel_rfl) (fun _ _ _ h => h) (Or.inl ⟨by rfl, ?_⟩) (by assumption) ?_
      rotate_left 1
      · (intro W hSW; go_simp; try (with_reducible rfl))
      refine wpAnyL_take (i := 3) (v := ?_) rfl (by kernel_rfl) (by kernel_rfl) (by kernel_rfl) (by kernel_rfl) (fun _ _ _ h => h) (Or.inl ⟨by rfl, ?_⟩) (by assumption) ?_
      rotate_left 1
      · (intro W hSW; go_simp; try (with_reducible rfl))
      refine wpAnyL_take (i := 4) (v := ?_) rfl (by kernel_rfl) (by kernel_rfl) (by kernel_rfl) (by kernel_rfl) (fun _ _ _ h => h) (Or.inl ⟨by rfl, ?_⟩) (by assumption) ?_
      rotate_left 1
      · (intro W hSW; go_simp; try (with_reducible rfl))
      refine wpAnyL_take (i := 5) (v := ?_) rfl (by kernel_rfl) (by kernel_rfl) (by kernel_rfl) (by kernel_rfl) (fun _ _ _ h => h) (Or.inl ⟨by rfl, ?_⟩) (by assumption) ?_
      rotate_left 1
      · (intro W hSW; go_simp; try (with_reducible rfl))
      refine wpAnyL_take (i := 6) (v := ?_) rfl (by kernel_rfl) (by kernel_rfl) (by kernel_rfl) (by kernel_rfl) (fun _ _ _ h => h) (Or.inl ⟨by rfl, ?_⟩) (by assumption) ?_
      rotate_left 1
      · (intro W hSW; go_simp; try (with_reducible rfl))
      refine wpAnyL_one (i := 7) (by kernel_rfl) rfl (fun K hK => ?_)
      go_simp
      try simp only [if_neg i3]
      refine (HG.out _ hbel.drew _ _ _ (lab.drop n) hsr (by simp; omega)).mono ?_
      rintro e w1 ⟨b1, ⟨hin, o, ho, hcm, rfl⟩ | ⟨hin, rfl⟩⟩
      · have hbel1 := Nm.below_two hbel.drew b1
        have hom := List.mem_of_getElem? ho
        have hhas := HH.out o hom w1 hbel1
        have HT : Hid (cutT os lab (n + 1) = if isIn (sCmp 2) o.ss = true then some o else cutT os lab n) := by
          show _ = _
          rw [cutT, hasT, ho]
          simp only [hin, Bool.true_and]
        clear ho hcm hin hom b1
        go_wp2_with fail
        refine hK.out _ _ (HC.out _ hbel1) (fun hH => ?_)
        clear hK K
        refine wpAnyL_take (i := 8) (v := ?_) rfl (by kernel_rfl) (by kernel_rfl) (by kernel_rfl) (by kernel_rfl) (fun _ _ _ h => h) (Or.inl ⟨by rfl, ?_⟩) (by assumption) ?_
        rotate_left 1
        · (intro W hSW; go_simp; try (with_reducible rfl))
        refine wpAnyL_take (i := 9) (v := ?_) rfl (by kernel_rfl) (by kernel_rfl) (by kernel_rfl) (by kernel_rfl) (fun _ _ _ h => h) (Or.inl ⟨by rfl, ?_⟩) (by assumption) ?_
        rotate_left 1
        · (intro W hSW; go_simp; try (with_reducible rfl))
        refine wpAnyL_take (i := 10) (v := ?_) rfl (by kernel_rfl) (by kernel_rfl) (by kernel_rfl) (by kernel_rfl) (fun _ _ _ h => h) (Or.inl ⟨by rfl, ?_⟩) (by assumption) ?_
        rotate_left 1
        · (intro W hSW; go_simp; try (with_reducible rfl))
        refine wpAnyL_one (i := 11) (by kernel_rfl) rfl (fun K hK => ?_)
        go_simp
        refine hK.out _ _ (HC.out _ hbel1) (fun hH2 => ?_)
        clear hK K
        refine wpAnyL_one (i := 12) (by kernel_rfl) rfl (fun K hK => ?_)
        go_simp
        refine hK.out _ _ (HC.out _ hbel1) (fun hH3 => ?_)
        clear hK K
        refine wpAnyL_done (by kernel_rfl) ?_
        clear hH hH2 hH3 hHeld hc1 hsr
        cases hi : isIn (sCmp 2) o.ss with
        | true =>
          rw [hi] at hhas
          have HQ : Hid (R = some o) := by show _ = _; rw [← HCR.out, HT.out, hi]; rfl
          clear hi
          go_wp2_with fail
          refine hhas.mono ?_
          rintro e w2 ⟨rfl, b2⟩
          go_wp2
          go_ret2
          exact ⟨by rw [HQ.out]; rfl, Nm.below_two hbel1 b2⟩
        | false =>
          rw [hi] at hhas
          have HQ : Hid (cutT os lab n = R) := by show _ = _; rw [← HCR.out, HT.out, hi]; rfl
          clear hi
          go_wp2_with (go_at_call 120; refine hhas.mono ?_; rintro e w2 ⟨rfl, b2⟩)
          go_roundw
          case rel => exact ⟨n, by omega, by go_num, HQ.out, Nm.below_two hbel1 b2⟩
          case measure => simp [intOf]
      · have hbel1 := Nm.below_two hbel.drew b1
        have HQ : Hid (cutT os lab n = R) := by
          show _ = _
          rw [← HCR.out, cutT, hasT]
          cases os[posOf (oCmp (lab.drop n)) os]? with
          | none => rfl
          | some o => simp [hin]
        clear hin b1
        go_wp2_with fail
        refine hK.out _ _ (HC.out _ hbel1) (fun hH => ?_)
        clear hK K
        refine wpAnyL_take (i := 8) (v := ?_) rfl (by kernel_rfl) (by kernel_rfl) (by kernel_rfl) (by kernel_rfl) (fun _ _ _ h => h) (Or.inl ⟨by rfl, ?_⟩) (by assumption) ?_
        rotate_left 1
        · (intro W hSW; go_simp; try (with_reducible rfl))
        refine wpAnyL_take (i := 9) (v := ?_) rfl (by kernel_rfl) (by kernel_rfl) (by kernel_rfl) (by kernel_rfl) (fun _ _ _ h => h) (Or.inl ⟨by rfl, ?_⟩) (by assumption) ?_
        rotate_left 1
        · (intro W hSW; go_simp; try (with_reducible rfl))
        refine wpAnyL_take (i := 10) (v := ?_) rfl (by kernel_rfl) (by kernel_rfl) (by kernel_rfl) (by kernel_rfl) (fun _ _ _ h => h) (Or.inl ⟨by rfl, ?_⟩) (by assumption) ?_
        rotate_left 1
        · (intro W hSW; go_simp; try (with_reducible rfl))
        refine wpAnyL_one (i := 11) (by kernel_rfl) rfl (fun K hK => ?_)
        go_simp
        refine hK.out _ _ (HC.out _ hbel1) (fun hH2 => ?_)
        clear hK K
        refine wpAnyL_one (i := 12) (by kernel_rfl) rfl (fun K hK => ?_)
        go_simp
        refine hK.out _ _ (HC.out _ hbel1) (fun hH3 => ?_)
        clear hK K
        refine wpAnyL_done (by kernel_rfl) ?_
        clear hH hH2 hH3 hHeld hc1 hsr
        go_wp2
        go_roundw
        case rel => exact ⟨n, by omega, by go_num, HQ.out, hbel1⟩
        case measure => simp [intOf]
/-- Whether a name is there, as the model tells it. -/
def thZ (ps : List Zp) (o name : ByteArray) : Bool := isUnderS name o && ps.any fun p => isUnderS p.1.own name

set_option maxRecDepth 100000 in
set_option maxHeartbeats 800000 in
theorem l06There_any (o name : ByteArray) (v : Value) (ps : List Zp) (w : World) (h : ZRow w v ps) (hf : ∀ p ∈ ps, p.1.own.size ≤ 1048576) (hn : name.size ≤ maxLen) (ho : o.size ≤ maxLen) :
    Calls Tryz.prog 82 #[.agg #[.string o, v], .string name] w fun e w' => e = .returned (.bool (thZ ps o name)) ∧ Below w.heap.size w w' := by
  obtain ⟨va, vc, rfl⟩ : ∃ va vc, v = .slice va ps.length vc := by obtain ⟨⟨_, a, c, e, _⟩, _⟩ := h; exact ⟨a, c, e⟩
  have b0 := (Below.refl w.heap.size w).alloc (Nat.le_refl _) (.cells #[.string o, .slice va ps.length vc] 29)
  have k0 := blk_new w #[.string o, .slice va ps.length vc] 29
  have hu0 := specIsUnder_any name o (w.alloc (.cells #[.string o, .slice va ps.length vc] 29)) hn ho
  have HU := Nm.hide (fun (x : ByteArray) (hx : x.size ≤ 1048576) W => specIsUnder_any x name W (by unfold maxLen; omega) hn)
  have HZ := Nm.hide (fun W (hW : Below w.heap.size w W) => h.below hW)
  have HF := Nm.hide hf
  have r0 := fun i => blk_cell k0 i
  have hps : ps.length ≤ maxLen := by obtain ⟨⟨_, a, c, e, h1, h2, _⟩, _⟩ := h; simp only [Value.slice.injEq] at e; omega
  unfold maxLen at hps
  obtain ⟨R, hR⟩ : ∃ R, R = thZ ps o name := ⟨_, rfl⟩
  rw [← hR]
  rw [thZ] at hR
  clear h hf
  cases hub : isUnderS name o with
  | false =>
    rw [hub] at hu0 hR
    have HR : Hid (R = false) := hR
    clear hub hR
    go_enter Tryz.func82, Tryz.ntmps82
    go_wp2_with fail
    refine hu0.mono ?_
    rintro e w1 ⟨rfl, b1⟩
    go_wp2
    go_ret
    exact ⟨by rw [HR.out]; rfl, Nm.below_two b0 b1⟩
  | true =>
    rw [hub] at hu0 hR
    have HR : Hid (R = ps.any fun p => isUnderS p.1.own name) := by show _ = _; rw [hR]; rfl
    clear hub hR
    go_enter Tryz.func82, Tryz.ntmps82
    go_wp2_with fail
    refine hu0.mono ?_
    rintro e w1 ⟨rfl, b1⟩
    have k1 := blk_below k0 b1
    have bw1 := Nm.below_two b0 b1
    clear hu0 k0 r0 b0 b1
    go_wp2
    go_loopw [5] (fun i wr => ∃ (j : Nat), j ≤ ps.length ∧ i = .int .i64 j ∧ Below w.heap.size w wr ∧ Blk wr w.heap.size #[.string o, .slice va ps.length vc] 29 ∧ ∀ i p, i < j → ps[i]? = some p → isUnderS p.1.own name = false) (fun i _ => ps.length - (intOf i).toNat)
    case atStart => exact ⟨0, Nat.zero_le _, rfl, bw1, k1, fun i p hi => by omega⟩
    case round =>
      clear k1 bw1
      obtain ⟨j, hj, rfl, hb, kz, hno⟩ := hrel
      have HNO := Nm.hide hno
      have rz := fun i => blk_cell kz i
      clear hno
      by_cases hlt : j < ps.length
      · obtain ⟨q, hq⟩ : ∃ q, ps[j]? = some q := ⟨_, List.getElem?_eq_getElem hlt⟩
        obtain ⟨⟨_, a9, c9, e9, _, _, hc9⟩, hd9⟩ := HZ.out _ hb
        simp only [Value.slice.injEq] at e9
        obtain ⟨rfl, _, rfl⟩ := e9
        obtain ⟨b, off, rfl, hcell⟩ := hc9 (by omega)
        obtain ⟨d0, d1, d2, d3⟩ := zp_cells hcell hq
        have hqm := List.mem_of_getElem? hq
        have hus := HU.out q.1.own (HF.out q hqm) wr
        have n1 : (0 : Int) ≤ (j : Int) := by omega
        have n2 : (j : Int) < (ps.length : Int) := by omega
        have HQ := Nm.hide (And.intro hq hqm)
        clear hc9 hd9 hcell hq hqm d1 d2 d3
        cases hub : isUnderS q.1.own name with
        | true =>
          rw [hub] at hus
          have HT : Hid (R = true) := by show _ = _; rw [HR.out, List.any_eq_true]; exact ⟨q, HQ.out.2, hub⟩
          clear hub
          go_wp2_with fail
          refine hus.mono ?_
          rintro e w2 ⟨rfl, b2⟩
          go_wp2
          go_ret
          exact ⟨by rw [HT.out]; rfl, Nm.below_two hb b2⟩
        | false =>
          rw [hub] at hus
          have HN : Hid (∀ i p, i < j + 1 → ps[i]? = some p → isUnderS p.1.own name = false) := fun i p hi hp => by
            rcases Nat.lt_or_ge i j with h1 | h1
            · exact HNO.out i p h1 hp
            · obtain rfl : i = j := by omega
              rw [HQ.out.1] at hp
              obtain rfl := Option.some.inj hp
              exact hub
          clear hub
          go_wp2_with (go_at_call 81; refine hus.mono ?_; rintro e w2 ⟨rfl, b2⟩)
          go_roundw
          case rel => exact ⟨j + 1, hlt, by go_num, Nm.below_two hb b2, blk_below kz b2, HN.out⟩
          case measure => simp [intOf]; omega
      · obtain rfl : j = ps.length := by omega
        have i9 : (ps.length : Int) ≤ (ps.length : Int) := by omega
        have HT : Hid (R = false) := by
          show _ = _
          rw [HR.out, List.any_eq_false]
          intro p hp
          obtain ⟨i, hi⟩ := List.getElem?_of_mem hp
          rw [HNO.out i p (List.getElem?_eq_some_iff.1 hi).1 hi]
          decide
        go_wp2
        go_ret
        exact ⟨by rw [HT.out]; rfl, hb⟩
theorem TInv.nm {l : List It} {os : List GOw} (h : TInv l os) (hl : ∀ y ∈ l, GoodI y) {o : GOw} (ho : o ∈ os) : Nm.split o.nm = some o.lab := by
  obtain ⟨i, x, hF, h1, h2⟩ := h.own o ho
  rw [h1, h2]
  exact (hl x hF.mem).1
/-- What a zone has of a name. -/
structure Nd where
  kd : Int
  clo : ByteArray
  cut : ByteArray
  ty : List Int
def nd0 : Nd := ⟨0, ⟨#[]⟩, ⟨#[]⟩, []⟩
def joB (ls : List ByteArray) : ByteArray := ⟨(Nm.joinL ls).toArray⟩
def labN (x : ByteArray) : Nat := ((Nm.split x).getD []).length
def candZ (o name : ByteArray) (s : Sz) : Bool := decide (s.ty = 2) && !sameS s.own o && isUnderS name s.own
def cutStep (o name best : ByteArray) (s : Sz) : ByteArray := if (candZ o name s && (decide (best = ⟨#[]⟩) || decide (labN s.own < labN best))) = true then s.own else best
def cutZ (ss : List Sz) (o name : ByteArray) : ByteArray := ss.foldl (cutStep o name) ⟨#[]⟩
def typZ (ss : List Sz) (name : ByteArray) : List Int := (ss.filter fun s => sameS s.own name).map (·.ty)
def cloZ (th : ByteArray → Bool) : List ByteArray → List ByteArray
  | [] => []
  | x :: xs => if th (joB (x :: xs)) = true then x :: xs else cloZ th xs
def kdZ (name clo cut : ByteArray) (ty : List Int) : Int :=
  if cut ≠ ⟨#[]⟩ then (if sameS cut name = true then 4 else 5) else if 0 < ty.length then 3 else if clo = name then 2 else 1
def ndZ (ps : List Zp) (o name : ByteArray) : Nd :=
  if isUnderS name o = true then
    ⟨kdZ name (joB (cloZ (thZ ps o) ((Nm.split name).getD []))) (cutZ (ps.map (·.1)) o name) (typZ (ps.map (·.1)) name), joB (cloZ (thZ ps o) ((Nm.split name).getD [])), cutZ (ps.map (·.1)) o name, typZ (ps.map (·.1)) name⟩
  else nd0
/-- What FindNode answers. -/
def ndR (ps : List Zp) (o name : ByteArray) : Nd × Int := if zOK ps o = true ∧ (Nm.split name).isSome = true then (ndZ ps o name, 0) else (nd0, 32)

/-- The tree's own answers. -/
def tyT (os : List GOw) (lab : List ByteArray) : List Int := if isIn (oCmp lab) os = true then (match os[posOf (oCmp lab) os]? with | some q => q.ss.map (·.ty) | none => []) else []
def cutN : Option GOw → ByteArray
  | some q => q.nm
  | none => ⟨#[]⟩
def kdT (lab clo : List ByteArray) (cut : Option GOw) (own : Bool) : Int := match cut with
  | some q => if q.lab.length = lab.length then 4 else 5
  | none => if own = true then 3 else if clo.length = lab.length then 2 else 1
def ndT (os : List GOw) (al lab : List ByteArray) : Nd :=
  if underB lab al = true then ⟨kdT lab (cloT os lab) (cutT os lab (lab.length - al.length)) (isIn (oCmp lab) os), joB (cloT os lab), cutN (cutT os lab (lab.length - al.length)), tyT os lab⟩ else nd0

theorem split_jo {s : ByteArray} {ls : List ByteArray} (h : Nm.split s = some ls) : joB ls = s := by
  rw [joB, (Nm.split_join h).1]
def Gl (ls : List ByteArray) : Prop := (∀ x ∈ ls, 1 ≤ x.size ∧ x.size ≤ 63) ∧ Nm.wsum ls ≤ 254
theorem gl_split {s : ByteArray} {ls : List ByteArray} (h : Nm.split s = some ls) : Gl ls := ⟨(Nm.split_join h).2, by have := Nm.split_size h; omega⟩
theorem Gl.drop {ls : List ByteArray} (h : Gl ls) (k : Nat) : Gl (ls.drop k) := ⟨drop_ok h.1 k, Nat.le_trans (Nm.wsum_drop_le ls k) h.2⟩
theorem Gl.jo {ls : List ByteArray} (h : Gl ls) : Nm.split (joB ls) = some ls := split_of_join h.1 h.2
theorem Gl.tail {x : ByteArray} {ls : List ByteArray} (h : Gl (x :: ls)) : Gl ls := h.drop 1
theorem jo_inj {a b : List ByteArray} (ha : Gl a) (hb : Gl b) (h : joB a = joB b) : a = b := by
  have h1 := ha.jo
  rw [h, hb.jo] at h1
  exact (Option.some.inj h1).symm
theorem under_iff {a b : List ByteArray} : underB a b = true ↔ b.length ≤ a.length ∧ Nm.cmpLs (a.drop (a.length - b.length)) b = 0 := by
  rw [underB]; simp
theorem under_drop {a b : List ByteArray} (h : underB a b = true) {k : Nat} (hk : k + b.length ≤ a.length) : underB (a.drop k) b = true := by
  obtain ⟨h1, h2⟩ := under_iff.1 h
  refine under_iff.2 ⟨by simp; omega, ?_⟩
  rw [List.drop_drop, List.length_drop, show k + (a.length - k - b.length) = a.length - b.length by omega]
  exact h2

/-- The apex is there. -/
theorem apex_in {ps : List Zp} {o : ByteArray} {al : List ByteArray} (hz : zOK ps o = true) (ha : Nm.split o = some al) : ∃ p ∈ ps, ∃ xs, Nm.split p.1.own = some xs ∧ Nm.cmpLs xs al = 0 := by
  have h0 := (zOK_recs hz).1
  rw [bldE, if_neg (by rw [ha]; simp)] at h0
  split at h0
  · exact absurd h0 (by simp)
  · cases hb : badOne o (zoneRecs ps) 0 with
    | some c => rw [hb] at h0; exact absurd h0 (bad_some _ _ c.1 c.2 hb)
    | none =>
      rw [hb] at h0
      simp only at h0
      split at h0
      · exact absurd h0 (by simp)
      · split at h0
        · rename_i h1; exact absurd h0 h1
        · rename_i h1
          have h1 : (rulesI (itsOf (zoneRecs ps)) (Nm.foldS o)).1 = 0 := by simpa using h1
          have hg : ∀ y ∈ (zoneRecs ps).map itemOf, GoodI y := by
            intro y hy
            obtain ⟨r, hr, rfl⟩ := List.mem_map.1 hy
            exact good_item (one_ok (bad_none _ _ hb r hr)).1
          have h6 : hasI (itsOf (zoneRecs ps)) (Nm.foldS o) 6 = true := by
            rw [rulesI] at h1
            split at h1
            · exact absurd h1 (by simp)
            · split at h1
              · exact absurd h1 (by simp)
              · rename_i h2; simpa using h2
          obtain ⟨y, hy, e1, -⟩ := (hasI_all hg _ _).1 h6
          have hgy := hg y hy
          obtain ⟨r, hr, rfl⟩ := List.mem_map.1 hy
          rw [zoneRecs] at hr
          split at hr
          · cases hr
          · obtain ⟨p, hp, hr⟩ := List.mem_flatMap.1 hr
            obtain ⟨d, -, rfl⟩ := List.mem_map.1 hr
            have hs : Nm.split p.1.own = some _ := hgy.1
            exact ⟨p, hp, _, hs, (fold_lab hs ha).1 e1⟩
/-- So the first ancestor that is there is found. -/
theorem thz_ex {ps : List Zp} {o name : ByteArray} {al lab : List ByteArray} (hz : zOK ps o = true) (ha : Nm.split o = some al) (hn : Nm.split name = some lab) (hu : underB lab al = true) : ∃ j, j ≤ lab.length ∧ thZ ps o (joB (lab.drop j)) = true := by
  obtain ⟨p, hp, xs, h1, h2⟩ := apex_in hz ha
  obtain ⟨u1, u2⟩ := under_iff.1 hu
  have hj := ((gl_split hn).drop (lab.length - al.length)).jo
  refine ⟨lab.length - al.length, by omega, ?_⟩
  rw [thZ, isUnder_some hj ha, under_self u2, Bool.true_and, List.any_eq_true]
  refine ⟨p, hp, ?_⟩
  rw [isUnder_some h1 hj]
  exact under_self (by rw [cmpLs_eq_right u2]; exact h2)

/-- What is known of a tree of a zone. -/
structure TZ (os : List GOw) (o : ByteArray) (al : List ByteArray) : Prop where
  nm : ∀ q ∈ os, Nm.split q.nm = some q.lab
  und : ∀ q ∈ os, underB q.lab al = true
  one : ∀ q ∈ os, ∀ r ∈ os, Nm.cmpLs q.lab r.lab = 0 → q = r
  srt : OwS os ∧ ∀ q ∈ os, SeS q.ss
  full : ∀ q ∈ os, ∃ s, s ∈ q.ss
  ap : Nm.split o = some al
  top : ∃ q ∈ os, Nm.cmpLs q.lab al = 0
theorem tz_of {ps : List Zp} {o : ByteArray} {al : List ByteArray} {l : List It} {os : List GOw} (hT : TInv l os) (hl : ∀ y ∈ l, GoodI y) (hu : ∀ y ∈ l, isUnderS y.r.own o = true) (ha : Nm.split o = some al) (hz : zOK ps o = true) (hzs : ps.map (·.1) = zoneT os) : TZ os o al := by
  have hnm := fun q (hq : q ∈ os) => hT.nm hl hq
  refine ⟨hnm, fun q hq => ?_, fun q hq r hr e => hT.one hq hr e, ⟨hT.sorted.1, fun q hq => (hT.sorted.2 q hq).1⟩, fun q hq => ?_, ha, ?_⟩
  · obtain ⟨i, x, hF, h1, h2⟩ := hT.own q hq
    have := hu x hF.mem
    rw [← h1, isUnder_some (hnm q hq) ha] at this
    exact this
  · obtain ⟨i, x, hF, h1, h2⟩ := hT.own q hq
    obtain ⟨q2, hq2, h3, s, hs, -⟩ := hT.cov x hF.mem
    have h4 : Nm.cmpLs (labI x) q.lab = 0 := hF.2.1
    have h5 : Nm.cmpLs (labI x) q2.lab = 0 := h3
    have e := hT.one hq hq2 (by rw [cmpLs_eq_left (cmpLs_symm h4)]; exact h5)
    rw [e]
    exact ⟨s, hs⟩
  · obtain ⟨p, hp, xs, h1, h2⟩ := apex_in hz ha
    have hm : p.1 ∈ zoneT os := by rw [← hzs]; exact List.mem_map_of_mem hp
    obtain ⟨g, hg, e⟩ := List.mem_map.1 hm
    have hg1 := (grT_mem.1 hg).1
    refine ⟨g.1, hg1, ?_⟩
    have h3 := hnm g.1 hg1
    rw [← e] at h1
    have h4 : Nm.split g.1.nm = some xs := h1
    rw [h3] at h4
    rw [Option.some.inj h4]
    exact h2
theorem TZ.zmem {ps : List Zp} {o : ByteArray} {al : List ByteArray} {os : List GOw} (h : TZ os o al) (hzs : ps.map (·.1) = zoneT os) (P : ByteArray → Bool) : (ps.any fun p => P p.1.own) = true ↔ ∃ q ∈ os, P q.nm = true := by
  have e : (ps.any fun p => P p.1.own) = (zoneT os).any fun z => P z.own := by rw [← hzs, List.any_map]; rfl
  rw [e, List.any_eq_true]
  constructor
  · rintro ⟨z, hz, hp⟩
    obtain ⟨g, hg, rfl⟩ := List.mem_map.1 hz
    exact ⟨g.1, (grT_mem.1 hg).1, hp⟩
  · rintro ⟨q, hq, hp⟩
    obtain ⟨s, hs⟩ := h.full q hq
    exact ⟨szT (q, s), List.mem_map_of_mem (grT_mem.2 ⟨hq, hs⟩), hp⟩
theorem TZ.th {ps : List Zp} {o : ByteArray} {al : List ByteArray} {os : List GOw} (h : TZ os o al) (hzs : ps.map (·.1) = zoneT os) {y : List ByteArray} (hy : Gl y) (hu : underB y al = true) : thT y os = thZ ps o (joB y) := by
  rw [thZ, isUnder_some hy.jo h.ap, hu, Bool.true_and]
  apply Bool.eq_iff_iff.2
  rw [thT_iff h.srt.1, h.zmem hzs (fun x => isUnderS x (joB y))]
  constructor <;> rintro ⟨q, hq, hp⟩ <;> refine ⟨q, hq, ?_⟩
  · rw [isUnder_some (h.nm q hq) hy.jo]; exact hp
  · rw [isUnder_some (h.nm q hq) hy.jo] at hp; exact hp
theorem TZ.topT {o : ByteArray} {al : List ByteArray} {os : List GOw} (h : TZ os o al) {y : List ByteArray} (hu : Nm.cmpLs y al = 0) : thT y os = true := by
  obtain ⟨q, hq, e⟩ := h.top
  exact (thT_iff h.srt.1 y).2 ⟨q, hq, under_self (by rw [cmpLs_eq_right hu]; exact e)⟩
theorem TZ.clo {ps : List Zp} {o : ByteArray} {al : List ByteArray} {os : List GOw} (h : TZ os o al) (hzs : ps.map (·.1) = zoneT os) : ∀ (y : List ByteArray), Gl y → underB y al = true → cloT os y = cloZ (thZ ps o) y
  | [], _, _ => rfl
  | x :: xs, hy, hu => by
    rw [cloT, cloZ, h.th hzs hy hu]
    cases hq : thZ ps o (joB (x :: xs)) with
    | true => rfl
    | false =>
      simp only [Bool.false_eq_true, if_false]
      refine h.clo hzs xs hy.tail ?_
      obtain ⟨u1, u2⟩ := under_iff.1 hu
      rcases Nat.lt_or_ge al.length (x :: xs).length with h1 | h1
      · exact under_drop hu (k := 1) (by omega)
      · rw [show (x :: xs).length - al.length = 0 by omega, List.drop_zero] at u2
        have := h.topT u2
        rw [h.th hzs hy hu, hq] at this
        cases this
theorem TZ.hex {o : ByteArray} {al lab : List ByteArray} {os : List GOw} (h : TZ os o al) (hu : underB lab al = true) : ∃ j, j ≤ lab.length ∧ thT (lab.drop j) os = true := by
  obtain ⟨u1, u2⟩ := under_iff.1 hu
  exact ⟨lab.length - al.length, by omega, h.topT u2⟩
set_option maxRecDepth 100000 in
set_option maxHeartbeats 400000 in
theorem specLabels_any (s : ByteArray) (w : World) (hs : s.size ≤ maxLen) :
    Calls Tryz.prog 40 #[.string s] w fun e w' => ∃ v, e = .returned v ∧ w'.ownsRow w.heap.size 9 1 v ((Nm.split s).getD []).length (((Nm.split s).getD []).map Value.string) ∧ Below w.heap.size w w' := by
  go_enter Tryz.func40, Tryz.ntmps40
  go_wp2_with (go_at_call 74; refine (l01Split_any s _ hs).mono ?_; rintro e w1 ⟨v, rfl, hown, hbel⟩)
  go_ret
  exact ⟨_, rfl, hown, hbel⟩
theorem cutZ_next {ps : List Zp} {o name : ByteArray} {j : Nat} {q : Zp} (hq : ps[j]? = some q) : cutZ ((ps.take (j + 1)).map (·.1)) o name = cutStep o name (cutZ ((ps.take j).map (·.1)) o name) q.1 := by
  rw [Nm.take_step hq, List.map_append, cutZ, cutZ, List.foldl_append]
  rfl
set_option maxRecDepth 100000 in
set_option maxHeartbeats 1600000 in
theorem l06Cut_any (o name : ByteArray) (v : Value) (ps : List Zp) (w : World) (h : ZRow w v ps) (hf : ∀ p ∈ ps, p.1.own.size ≤ 1048576) (hn : name.size ≤ maxLen) (ho : o.size ≤ maxLen) :
    Calls Tryz.prog 83 #[.agg #[.string o, v], .string name] w fun e w' => e = .returned (.string (cutZ (ps.map (·.1)) o name)) ∧ Below w.heap.size w w' := by
  obtain ⟨va, vc, rfl⟩ : ∃ va vc, v = .slice va ps.length vc := by obtain ⟨⟨_, a, c, e, _⟩, _⟩ := h; exact ⟨a, c, e⟩
  have b0 := (Below.refl w.heap.size w).alloc (Nat.le_refl _) (.cells #[.string o, .slice va ps.length vc] 29)
  have k0 := blk_new w #[.string o, .slice va ps.length vc] 29
  have HSm := Nm.hide (fun (x : ByteArray) (hx : x.size ≤ 1048576) W => specSameName_any x o W (by unfold maxLen; omega) ho)
  have HUn := Nm.hide (fun (x : ByteArray) (hx : x.size ≤ 1048576) W => specIsUnder_any name x W hn (by unfold maxLen; omega))
  have HLb : Hid (∀ (x : ByteArray) (hx : x.size ≤ 1048576) W, Calls Tryz.prog 40 #[.string x] W fun e w' => ∃ a c, e = .returned (.slice a (labN x) c) ∧ Below W.heap.size W w') := fun x hx W => (specLabels_any x W (by unfold maxLen; omega)).mono (by
    rintro e w' ⟨u, rfl, hu, hb⟩
    obtain ⟨a, c, rfl⟩ := own_sl hu
    exact ⟨a, c, rfl, hb⟩)
  have HLN : Hid (∀ (x : ByteArray), x.size ≤ 1048576 → labN x ≤ 1000) := fun x hx => by
    show labN x ≤ 1000
    rw [labN]
    cases hq : Nm.split x with
    | none => simp
    | some xs =>
      have h1 := Nm.split_size hq
      have h2 := Nm.length_le_wsum xs
      show xs.length ≤ 1000
      omega
  have HZ := Nm.hide (fun W (hW : Below w.heap.size w W) => h.below hW)
  have HF := Nm.hide hf
  have HG : Hid (∀ W, Below w.heap.size w W → w.heap.size ≤ W.heap.size) := fun W hW => hW.size
  have hps : ps.length ≤ maxLen := by obtain ⟨⟨_, a, c, e, h1, h2, _⟩, _⟩ := h; simp only [Value.slice.injEq] at e; omega
  unfold maxLen at hps
  clear h hf
  go_enter Tryz.func83, Tryz.ntmps83
  go_wp2
  generalize hgg : w.heap.size = g at *
  have HGG := Nm.hide hgg
  clear hgg
  go_loopw [5, 6] (fun bv i wr => ∃ (j : Nat) (bs : ByteArray), j ≤ ps.length ∧ i = .int .i64 j ∧ bv = .string bs ∧ bs.size ≤ 1048576 ∧ bs = cutZ ((ps.take j).map (·.1)) o name ∧ Below g w wr ∧ Blk wr g #[.string o, .slice va ps.length vc] 29) (fun _ i _ => ps.length - (intOf i).toNat)
  case atStart => exact ⟨0, ⟨#[]⟩, Nat.zero_le _, rfl, rfl, by decide, rfl, b0, k0⟩
  case round =>
    clear b0 k0
    obtain ⟨j, bs, hj, rfl, rfl, hbs, hbe, hb, kz⟩ := hrel
    have HBE := Nm.hide hbe
    have rz := fun i => blk_cell kz i
    clear hbe
    by_cases hlt : j < ps.length
    · obtain ⟨q, hq⟩ : ∃ q, ps[j]? = some q := ⟨_, List.getElem?_eq_getElem hlt⟩
      obtain ⟨⟨_, a9, c9, e9, _, _, hc9⟩, hd9⟩ := HZ.out _ hb
      simp only [Value.slice.injEq] at e9
      obtain ⟨rfl, _, rfl⟩ := e9
      obtain ⟨b, off, rfl, hcell⟩ := hc9 (by omega)
      obtain ⟨d0, d1, d2, d3⟩ := zp_cells hcell hq
      have hfq := HF.out q (List.mem_of_getElem? hq)
      obtain ⟨ua, un, uc, hu⟩ : ∃ ua un uc, q.2 = .slice ua un uc := by obtain ⟨a, c, e, _⟩ := hd9 q (List.mem_of_getElem? hq); exact ⟨a, _, c, e⟩
      have n1 : (0 : Int) ≤ (j : Int) := by omega
      have n2 : (j : Int) < (ps.length : Int) := by omega
      have HNX : Hid (cutZ ((ps.take (j + 1)).map (·.1)) o name = cutStep o name bs q.1) := by show _ = _; rw [cutZ_next hq, HBE.out]
      clear hc9 hd9 hcell hq
      obtain ⟨⟨x, ty, tt, ds⟩, u⟩ := q
      simp only at d0 d1 d2 d3 hfq hu
      subst hu
      have kS := blk_new wr #[.string x, .int .i64 ty, .int .i64 tt, .slice ua un uc] 35
      have bS := (Below.refl wr.heap.size wr).alloc (Nat.le_refl _) (.cells #[.string x, .int .i64 ty, .int .i64 tt, .slice ua un uc] 35)
      have kz2 := blk_below kz bS
      have bw2 := hb.trans (bS.mono (HG.out _ hb))
      have rS := fun i => blk_cell kS i
      have fS := fun i => blk_frozen kS i
      by_cases hty : ty = 2
      · have t1 : (ty == 2) = true := by simp [hty]
        have HTY := Nm.hide hty
        have rz2 := fun i => blk_cell kz2 i
        have HSX := Nm.hide (HSm.out x hfq)
        clear hty
        cases hsb : sameS x o with
        | true =>
          have HN : Hid (bs = cutZ ((ps.take (j + 1)).map (·.1)) o name) := by show _ = _; rw [HNX.out, cutStep, candZ]; simp [hsb]
          rw [hsb] at HSX
          clear hsb HNX
          go_wp2_with (go_at_call 69; refine (HSX.out _).mono ?_; rintro e w1 ⟨rfl, b1⟩)
          go_roundw
          case rel => exact ⟨j + 1, bs, hlt, by go_num, rfl, hbs, HN.out, bw2.trans (b1.mono (HG.out _ bw2)), blk_below kz2 b1⟩
          case measure => simp [intOf]; omega
        | false =>
          rw [hsb] at HSX
          have HSB := Nm.hide hsb
          clear hsb
          go_wp2_with fail
          refine (HSX.out _).mono ?_
          rintro e w1 ⟨rfl, b1⟩
          have kS1 := blk_below kS b1
          have kz1 := blk_below kz2 b1
          have bw1 := bw2.trans (b1.mono (HG.out _ bw2))
          have rS1 := fun i => blk_cell kS1 i
          have hun := HUn.out x hfq w1
          clear kS kz2 bw2 b1 rS fS rz rz2 d0 d1 d2 d3 HSX kz hb bS
          generalize wr.heap.size = sp at *
          cases hub : isUnderS name x with
          | false =>
            have HN : Hid (bs = cutZ ((ps.take (j + 1)).map (·.1)) o name) := by show _ = _; rw [HNX.out, cutStep, candZ]; simp [hub]
            rw [hub] at hun
            clear hub HNX
            go_wp2_with (go_at_call 81; refine hun.mono ?_; rintro e w2 ⟨rfl, b2⟩)
            go_roundw
            case rel => exact ⟨j + 1, bs, hlt, by go_num, rfl, hbs, HN.out, bw1.trans (b2.mono (HG.out _ bw1)), blk_below kz1 b2⟩
            case measure => simp [intOf]; omega
          | true =>
            have HCA : Hid (candZ o name ⟨x, ty, tt, ds⟩ = true) := by show _ = _; rw [candZ]; simp [HTY.out, HSB.out, hub]
            rw [hub] at hun
            clear hub
            by_cases hbn : bs = ⟨#[]⟩
            · have HN : Hid (x = cutZ ((ps.take (j + 1)).map (·.1)) o name) := by show _ = _; rw [HNX.out, cutStep, HCA.out]; simp [hbn]
              subst hbn
              clear HNX HCA HBE
              go_wp2_with fail
              refine hun.mono ?_
              rintro e w2 ⟨rfl, b2⟩
              have kS2 := blk_below kS1 b2
              have rS2 := fun i => blk_cell kS2 i
              have kz2 := blk_below kz1 b2
              have bw2 := bw1.trans (b2.mono (HG.out _ bw1))
              clear kS1 rS1 kz1 bw1 b2 hun
              go_wp2
              go_roundw
              case rel => exact ⟨j + 1, x, hlt, by go_num, rfl, hfq, HN.out, bw2, kz2⟩
              case measure => simp [intOf]; omega
            · obtain ⟨m1, m2⟩ := not_empty (s := bs) (Nat.pos_of_ne_zero fun e => hbn (by
                cases bs with | mk d =>
                congr
                exact Array.eq_empty_of_size_eq_zero e))
              have HL1 := HLN.out x hfq
              have HL2 := HLN.out bs hbs
              have HBN := Nm.hide hbn
              clear hbn
              go_wp2_with fail
              refine hun.mono ?_
              rintro e w2 ⟨rfl, b2⟩
              have kS2 := blk_below kS1 b2
              have rS2 := fun i => blk_cell kS2 i
              have kz2 := blk_below kz1 b2
              have bw2 := bw1.trans (b2.mono (HG.out _ bw1))
              clear kS1 rS1 kz1 bw1 b2 hun
              have hl1 := HLb.out x hfq w2
              go_wp2_with fail
              refine hl1.mono ?_
              rintro e w3 ⟨xa, xc, rfl, b3⟩
              have kS3 := blk_below kS2 b3
              have rS3 := fun i => blk_cell kS3 i
              have kz3 := blk_below kz2 b3
              have bw3 := bw2.trans (b3.mono (HG.out _ bw2))
              have hl2 := HLb.out bs hbs w3
              clear kS2 rS2 kz2 bw2 b3 hl1
              by_cases hcmp : labN x < labN bs
              · have HN : Hid (x = cutZ ((ps.take (j + 1)).map (·.1)) o name) := by show _ = _; rw [HNX.out, cutStep, HCA.out]; simp [hcmp]
                have i1 : (labN x : Int) < (labN bs : Int) := by omega
                clear HNX HCA HBE hcmp
                generalize labN x = LX at *
                generalize labN bs = LB at *
                go_wp2_with fail
                refine hl2.mono ?_
                rintro e w4 ⟨ya, yc, rfl, b4⟩
                have kS4 := blk_below kS3 b4
                have rS4 := fun i => blk_cell kS4 i
                have kz4 := blk_below kz3 b4
                have bw4 := bw3.trans (b4.mono (HG.out _ bw3))
                clear kS3 rS3 kz3 bw3 b4 hl2
                go_wp2
                go_roundw
                case rel => exact ⟨j + 1, x, hlt, by go_num, rfl, hfq, HN.out, bw4, kz4⟩
                case measure => simp [intOf]; omega
              · have HN : Hid (bs = cutZ ((ps.take (j + 1)).map (·.1)) o name) := by show _ = _; rw [HNX.out, cutStep, HCA.out]; simp [hcmp, HBN.out]
                have i1 : (labN bs : Int) ≤ (labN x : Int) := by omega
                clear HNX HCA HBE hcmp
                generalize labN x = LX at *
                generalize labN bs = LB at *
                go_wp2_with fail
                refine hl2.mono ?_
                rintro e w4 ⟨ya, yc, rfl, b4⟩
                have kz4 := blk_below kz3 b4
                have bw4 := bw3.trans (b4.mono (HG.out _ bw3))
                clear kS3 rS3 kz3 bw3 b4 hl2
                go_wp2
                go_roundw
                case rel => exact ⟨j + 1, bs, hlt, by go_num, rfl, hbs, HN.out, bw4, kz4⟩
                case measure => simp [intOf]; omega
      · have t1 : (ty == 2) = false := by simp [hty]
        have HN : Hid (bs = cutZ ((ps.take (j + 1)).map (·.1)) o name) := by show _ = _; rw [HNX.out, cutStep, candZ]; simp [hty]
        clear hty
        go_wp2
        go_roundw
        case rel => exact ⟨j + 1, bs, hlt, by go_num, rfl, hbs, HN.out, bw2, kz2⟩
        case measure => simp [intOf]; omega
    · obtain rfl : j = ps.length := by omega
      have i9 : (ps.length : Int) ≤ (ps.length : Int) := by omega
      rw [List.take_length] at HBE
      go_wp2
      go_ret
      rw [HGG.out]
      exact ⟨by rw [← HBE.out]; rfl, hb⟩
end Go.Proofs.YtnpegoclghfmpaaGreat
/- Integers as cells. -/
namespace Go.Proofs.YtnpegoclghfmpaaGreat
open Go.RowKit

def intCells (l : List Int) : List Value := l.map fun x => .int .i64 x
theorem intCells_len (l : List Int) : (intCells l).length = l.length := by simp [intCells]

end Go.Proofs.YtnpegoclghfmpaaGreat
/- impl.keysOf of types: the keys of a table, one behind the other, in a row of one's own. -/
namespace Go.Proofs.YtnpegoclghfmpaaGreat
open Go.RowKit Go.Shelf
set_option linter.unusedVariables false
attribute [local go_sem] Oper.semAt_some

theorem infoI64K : (Tryz.prog.info? 2).map (fun i => (i.zero, i.size, i.bytes)) = some (some (.int .i64 0), 1, 8) := by kernel_rfl

set_option maxRecDepth 100000 in
set_option maxHeartbeats 2000000 in
theorem keysOf_in (F : Fence) (n : Nat) (h3 : F.fn 86) (h4 : F.fn 110) (h5 : F.fn 139) (hro : F.round = none) (hn : 3 ≤ n)
    (g : Nat) (sv : Value) (zs : List GSe) (hl : zs.length ≤ 1000000) (w : World) (hg : g < w.heap.size) (kg : w.cell? ⟨g, 1, none⟩ = some sv) (hR : RwsI (fun p : GSe => p.ty) (fun p => (⟨p.blk, 0, none⟩ : Addr)) w.heap.size w sv zs) :
    CallsIn F n Tryz.prog 86 #[.pointer (some ⟨g, 0, none⟩)] w fun e W' => ∃ v, e = .returned v ∧ W'.ownsRow w.heap.size 2 1 v zs.length (zs.map fun p => .int .i64 p.ty) ∧ Below w.heap.size w W' := by
  have h1 : 1 ≤ n := by omega
  obtain ⟨i0, hi, hz0, hz1, hz2⟩ := info_parts infoI64K
  refine callsIn_of_wp_marks Tryz.func86 rfl h3 ?_ hro
  simp only [Tryz.ntmps86, List.size_toArray, List.length_cons, List.length_nil, Nat.reduceAdd, Nat.reduceSub, Array.replicate_succ, Array.replicate_zero, List.push_toArray, List.append_toArray, List.nil_append, List.cons_append]
  gi_wp2_with (gi_at_call 110; refine (allI_in F (n - 1) h4 hro _ _).mono ?_; rintro e w' ⟨rfl, rfl⟩)
  have bO := Boxed.new w 46 (.slice none 0 0)
  have bN := Boxed.new (w.alloc (.cells #[.slice none 0 0] 46)) 135 (.pointer (some ⟨g, 0, none⟩))
  rw [World.size_alloc] at bN
  have hB0 : Below w.heap.size w ((w.alloc (.cells #[.slice none 0 0] 46)).alloc (.cells #[.pointer (some ⟨g, 0, none⟩)] 135)) := ((Below.refl _ w).alloc (Nat.le_refl _) _).alloc (by simp) _
  have kg2 := (hB0.cell (p := ⟨g, 1, none⟩) hg).trans kg
  refine wpIn_rangeFunc_ownG hro h1 (gf := 139) (lb := #[.pointer (some ⟨w.heap.size + 1, 0, none⟩)]) rfl h5 (enters_of Tryz.func139 (by kernel_rfl) rfl)
    (allStopsI (fun p : GSe => p.ty) (fun p => (⟨p.blk, 0, none⟩ : Addr)) F (n - 1) h5 hro (by omega) (w.heap.size + 1) g w.heap.size sv zs hl _ (by simp) hg (by simp; omega) bN.cell kg2 (hR.below hB0)) belowK_t (belowK_b (by simp; omega)) (Below.refl _ _) (fun _ => rfl)
    (fun pre W => (∃ v, Boxed W w.heap.size 46 v ∧ W.ownsRow w.heap.size 2 1 v pre.length (pre.map fun p => .int .i64 p.ty) ∧ True) ∧ Below w.heap.size w W)
    (fun _ _ _ => False)
    (OwnFrom.and (Own.from (holdsRow_own w.heap.size w.heap.size 46 2 1 (fun pre : List GSe => pre.length) (fun pre => pre.map fun p => .int .i64 p.ty) (fun pre v => True)) _) (ownFrom_below (Nat.le_refl _) (by simp; omega)))
    (fun _ _ _ _ _ hs _ _ => hs)
    ⟨⟨_, bO.alloc _, World.ownsRow_nil _ _ _ _, trivial⟩, hB0⟩
    (fun x => { tmps := #[.pointer (some ⟨g, 0, none⟩), undef, .slice none 0 0, .pointer (some ⟨w.heap.size, 0, none⟩), .int .i64 x.ty, .pointer (some ⟨g, 0, none⟩), .func (.func 139) #[] #[.pointer (some ⟨w.heap.size + 1, 0, none⟩)], .int .i64 x.ty, .pointer (some ⟨x.blk, 0, none⟩), undef, undef, undef, undef, undef], defers := [] }) ?assign ?body ?done ?stop
  case assign =>
    intro l x W K hK
    gi_wp2
    exact hK
  case body =>
    rintro l pre x W ⟨⟨v, hv, hrow, -⟩, hB⟩ hlt
    have hc := hv.cell
    have hm : zs.length ≤ maxLen := by unfold maxLen; omega
    gi_wp2_with (gi_at_builtin; refine wpListIn_append_own _ rfl _ _ 46 rfl w.heap.size 2 i0 (.int .i64 0) 1 8 Tryz.underlying46 hi hz0 hz1 hz2 rfl (by decide) _ _ _ rfl (hrow.alloc _) ⟨W.heap.size, 0, none⟩ 1 1 [.int .i64 x.ty] rfl rfl (cell_one_new _ _ _) (by simp [Value.oneCell']) (by omega) (by omega) (by have := hB.size; simp; omega) ?_; intro v' w1 hown' hgrow _; obtain ⟨g', cap', rfl⟩ := ownsRow_succ hown'; obtain ⟨hv1, hv2, hr2, hk2, hb2⟩ := hv.appended (by decide) hrow hB.size (Nat.le_refl _) hown' hgrow; have hc1 := hv1.cell; have hf1 := hv1.frozen)
    exact ⟨hk2.from _, hb2, ⟨_, hv2, by simpa using hr2, trivial⟩, hB.trans hb2⟩
  case done =>
    rintro D ys W hD rfl ⟨⟨v, hv, hrow, -⟩, hB⟩ hK
    have hc := hv.cell
    gi_wp2
    refine ⟨by simp, .inl ⟨_, _, rfl, run_takeDeferred hK, ?_⟩⟩
    exact ⟨_, results_tmp rfl _ _ _, v, rfl, ownsRow_putObj hrow _ hK rfl, hB.trans (belowK_b (w := w) (Nat.le_refl _) W D _ _ (by simp at hD; omega) hK rfl rfl)⟩
  case stop =>
    rintro D c pre W _ _ h _
    exact h.elim

theorem keysOf_any (g : Nat) (sv : Value) (zs : List GSe) (hl : zs.length ≤ 1000000) (w : World) (hg : g < w.heap.size) (kg : w.cell? ⟨g, 1, none⟩ = some sv) (hR : RwsI (fun p : GSe => p.ty) (fun p => (⟨p.blk, 0, none⟩ : Addr)) w.heap.size w sv zs) :
    Calls Tryz.prog 86 #[.pointer (some ⟨g, 0, none⟩)] w fun e W' => ∃ v, e = .returned v ∧ W'.ownsRow w.heap.size 2 1 v zs.length (zs.map fun p => .int .i64 p.ty) ∧ Below w.heap.size w W' :=
  (callsIn_wide (n := 3)).1 (keysOf_in _ 3 trivial trivial trivial rfl (by omega) g sv zs hl w hg kg hR)
end Go.Proofs.YtnpegoclghfmpaaGreat
/- spec.l06Types by its contract. -/
namespace Go.Proofs.YtnpegoclghfmpaaGreat
open Go.RowKit
set_option linter.unusedVariables false

theorem typZ_next {ps : List Zp} {name : ByteArray} {j : Nat} {q : Zp} (hq : ps[j]? = some q) : typZ ((ps.take (j + 1)).map (·.1)) name = typZ ((ps.take j).map (·.1)) name ++ (if sameS q.1.own name = true then [q.1.ty] else []) := by
  rw [Nm.take_step hq, List.map_append, typZ, typZ, List.filter_append, List.map_append]
  congr 1
  simp only [List.map_cons, List.map_nil, List.filter_cons, List.filter_nil]
  split <;> rfl
theorem typZ_len (l : List Sz) (name : ByteArray) : (typZ l name).length ≤ l.length := by
  rw [typZ, List.length_map]
  exact List.length_filter_le _ _
theorem typ_bel {W wr w1 : World} {v : Value} {B e n : Nat} {l : List Value} (hB : B ≤ wr.heap.size)
    (hown : wr.ownsRow B e 1 v n l) (hbel : Below B W wr) (o : Obj) (hgrow : (wr.alloc o).grownBy w1 v.ownBlock) : Below B W w1 := by
  refine (hbel.alloc hB o).grown hgrow (by simp; omega) ?_
  intro k hk
  exact (hown.lt k hk).1

set_option maxRecDepth 100000 in
set_option maxHeartbeats 1600000 in
theorem l06Types_any (o name : ByteArray) (v : Value) (ps : List Zp) (w : World) (h : ZRow w v ps) (hl : ps.length ≤ 1048576) (hf : ∀ p ∈ ps, p.1.own.size ≤ 1048576) (hn : name.size ≤ maxLen) :
    Calls Tryz.prog 84 #[.agg #[.string o, v], .string name] w fun e w' => ∃ u, e = .returned u ∧ w'.ownsRow w.heap.size 2 1 u (typZ (ps.map (·.1)) name).length (intCells (typZ (ps.map (·.1)) name)) ∧ Below w.heap.size w w' := by
  obtain ⟨va, vc, rfl⟩ : ∃ va vc, v = .slice va ps.length vc := by obtain ⟨⟨_, a, c, e, _⟩, _⟩ := h; exact ⟨a, c, e⟩
  obtain ⟨i0, hi, hz0, hz1, hz2⟩ := info_parts infoI64K
  have b0 := (Below.refl w.heap.size w).alloc (Nat.le_refl _) (.cells #[.string o, .slice va ps.length vc] 29)
  have k0 := blk_new w #[.string o, .slice va ps.length vc] 29
  have HSm := Nm.hide (fun (x : ByteArray) (hx : x.size ≤ 1048576) W => specSameName_any x name W (by unfold maxLen; omega) hn)
  have HZ := Nm.hide (fun W (hW : Below w.heap.size w W) => h.below hW)
  have HF := Nm.hide hf
  have HG : Hid (∀ W, Below w.heap.size w W → w.heap.size ≤ W.heap.size) := fun W hW => hW.size
  have o0 := World.ownsRow_made (base := w.heap.size) (e := 2) (size := 1) (w.alloc (.cells #[.string o, .slice va ps.length vc] 29)) #[] 0 b0.size (by decide) rfl
  rw [World.size_alloc] at o0
  have b1 := b0.alloc b0.size (.cells #[] 2)
  have k1 := blk_alloc k0 (.cells #[] 2)
  obtain ⟨R, hR⟩ : ∃ R, R = typZ (ps.map (·.1)) name := ⟨_, rfl⟩
  rw [← hR]
  have HR := Nm.hide hR
  clear h hf hR b0 k0
  go_enter Tryz.func84, Tryz.ntmps84
  go_wp2
  generalize hgg : w.heap.size = g at *
  have HGG := Nm.hide hgg
  clear hgg
  go_loopw [5, 6] (fun v i wr => ∃ (j m : Nat) (l : List Int), j ≤ ps.length ∧ i = .int .i64 j ∧ m ≤ j ∧ Hid (l.length = m) ∧ Hid (l = typZ ((ps.take j).map (·.1)) name) ∧ wr.ownsRow g 2 1 v m (intCells l) ∧ Below g w wr ∧ Blk wr g #[.string o, .slice va ps.length vc] 29) (fun _ i _ => ps.length - (intOf i).toNat)
  case atStart => exact ⟨0, 0, [], Nat.zero_le _, rfl, Nat.le_refl _, rfl, rfl, o0, b1, k1⟩
  case round =>
    clear b1 k1 o0
    obtain ⟨j, m, l, hj, rfl, hm, HL, HT, hown, hb, kz⟩ := hrel
    have rz := fun i => blk_cell kz i
    have hgw := HG.out _ hb
    obtain ⟨oa, oc, rfl⟩ := own_sl hown
    by_cases hlt : j < ps.length
    · obtain ⟨q, hq⟩ : ∃ q, ps[j]? = some q := ⟨_, List.getElem?_eq_getElem hlt⟩
      obtain ⟨⟨_, a9, c9, e9, _, _, hc9⟩, hd9⟩ := HZ.out _ hb
      simp only [Value.slice.injEq] at e9
      obtain ⟨rfl, _, rfl⟩ := e9
      obtain ⟨b, off, rfl, hcell⟩ := hc9 (by omega)
      obtain ⟨d0, d1, d2, d3⟩ := zp_cells hcell hq
      have hsm := HSm.out q.1.own (HF.out q (List.mem_of_getElem? hq)) wr
      have n1 : (0 : Int) ≤ (j : Int) := by omega
      have n2 : (j : Int) < (ps.length : Int) := by omega
      have HNX : Hid (typZ ((ps.take (j + 1)).map (·.1)) name = l ++ (if sameS q.1.own name = true then [q.1.ty] else [])) := by show _ = _; rw [typZ_next hq, HT.out]
      clear hc9 hd9 hcell hq d2 d3
      obtain ⟨⟨x, ty, tt, ds⟩, u⟩ := q
      simp only at d0 d1 hsm HNX
      cases hsb : sameS x name with
      | true =>
        rw [hsb] at hsm HNX
        simp only [if_true] at HNX
        have HCC : Hid (intCells l ++ [.int .i64 ty] = intCells (l ++ [ty])) := by show _ = _; simp [intCells]
        have HL2 : Hid ((l ++ [ty]).length = m + 1) := by show _ = _; rw [List.length_append, HL.out]; rfl
        clear hsb HT
        go_wp2_with fail
        refine hsm.mono ?_
        rintro e w1 ⟨rfl, b1⟩
        have kz1 := blk_below kz b1
        have rz1 := fun i => blk_cell kz1 i
        have up := fun {O : Nat} {z : Value} (hz : wr.cell? ⟨b, O, none⟩ = some z) => (b1.cell (World.block_lt_of_cell? wr _ hz)).trans hz
        have f1 := up d1
        have hown1 := own_below hown b1
        have bw1 := hb.trans (b1.mono hgw)
        have hgw1 := HG.out _ bw1
        clear up d0 d1 rz kz hb hown hsm b1
        go_wp2_with (at_builtin; refine wpList_append_own _ rfl (.tmp 23) (.tmp 30) 46 rfl g 2 i0 (.int .i64 0) 1 8 Tryz.underlying46 hi hz0 hz1 hz2 rfl (by decide) _ _ _ rfl (hown1.alloc _) ⟨w1.heap.size, 0, none⟩ 1 1 [.int .i64 ty] rfl rfl (cell_new1 _ _ _) (Nm.one_cell _ rfl) (by unfold maxLen; omega) (by omega) (by simp; omega) ?_)
        intro v' w6 hown6 hgrow _
        rw [HCC.out] at hown6
        have hb6 := typ_bel hgw1 hown1 bw1 _ hgrow
        have kz6 := blk_grown (blk_alloc kz1 _) hgrow (own_nb hown1 kz1 (by decide))
        clear hgrow hown1 kz1 rz1 bw1
        go_wp2
        go_roundw
        case rel => exact ⟨j + 1, m + 1, _, hlt, by go_num, by omega, HL2, HNX.out.symm, hown6, hb6, kz6⟩
        case measure => simp [intOf]; omega
      | false =>
        rw [hsb] at hsm HNX
        have HT2 : Hid (l = typZ ((ps.take (j + 1)).map (·.1)) name) := by show _ = _; rw [HNX.out]; simp
        clear hsb HT HNX
        go_wp2_with (go_at_call 69; refine hsm.mono ?_; rintro e w1 ⟨rfl, b1⟩)
        go_roundw
        case rel => exact ⟨j + 1, m, l, hlt, by go_num, by omega, HL, HT2, own_below hown b1, hb.trans (b1.mono hgw), blk_below kz b1⟩
        case measure => simp [intOf]; omega
    · obtain rfl : j = ps.length := by omega
      have i9 : (ps.length : Int) ≤ (ps.length : Int) := by omega
      have HE : Hid (l = R) := by show _ = _; rw [HR.out, HT.out, List.take_length]
      go_wp2
      go_ret
      rw [HGG.out]
      refine ⟨_, rfl, ?_, hb⟩
      rw [← HE.out, HL.out]
      exact hown
end Go.Proofs.YtnpegoclghfmpaaGreat
/- (labelList).wireSize and (labelList).wire by their contracts. -/
namespace Go.Proofs.YtnpegoclghfmpaaGreat
open Go.RowKit

theorem Tryz.infoU8 : (Tryz.prog.info? 5).map (fun i => (i.zero, i.size, i.bytes)) = some (some (.int .u8 0), 1, 1) := by kernel_rfl

set_option maxRecDepth 100000 in
set_option maxHeartbeats 400000 in
theorem wireSize_any (v : Value) (ls : List ByteArray) (w : World) (h : Nm.SRow w v ls) (hlen : Nm.wsum ls ≤ 1000000000) :
    Calls Tryz.prog 118 #[v] w fun e w' => e = .returned (.int .i64 ((1 + Nm.wsum ls : Nat) : Int)) ∧ w' = w := by
  obtain ⟨a, cap, rfl, hcap, hmx, hnl, hc⟩ := h
  have hll := Nm.length_le_wsum ls
  by_cases hne : ls = []
  · subst hne
    go_enter Tryz.func118, Tryz.ntmps118
    go_wp2
    go_loop [3, 8] (fun t i => t = .int .i64 1 ∧ i = .int .i64 0) (fun _ _ => 0)
    case atStart => exact ⟨rfl, rfl⟩
    case round =>
      obtain ⟨rfl, rfl⟩ := hrel
      go_wp2
      go_ret
      exact ⟨rfl, rfl⟩
  · obtain ⟨b, off, rfl, hcell⟩ := hc hne
    clear hc hnl hne
    go_enter Tryz.func118, Tryz.ntmps118
    go_wp2
    go_loop [3, 8] (fun t i => ∃ k : Nat, k ≤ ls.length ∧ i = .int .i64 k ∧ t = .int .i64 ((1 + Nm.wsum (ls.take k) : Nat) : Int)) (fun _ i => ls.length - (intOf i).toNat)
    case atStart => exact ⟨0, Nat.zero_le _, rfl, rfl⟩
    case round =>
      obtain ⟨k, hk, rfl, rfl⟩ := hrel
      have hw := Nm.wsum_take_le ls k
      by_cases hlt : k < ls.length
      · obtain ⟨x, hx⟩ : ∃ x, ls[k]? = some x := ⟨_, List.getElem?_eq_getElem hlt⟩
        have hcx := hcell k x hx
        have HS : Hid (Nm.wsum (ls.take (k + 1)) = Nm.wsum (ls.take k) + (1 + x.size)) := Nm.wsum_step hx
        have hw1 : Nm.wsum (ls.take k) + (1 + x.size) ≤ Nm.wsum ls := by rw [← HS.out]; exact Nm.wsum_take_le ls (k + 1)
        clear hx hcell
        go_wp2
        go_round
        case rel => exact ⟨k + 1, by omega, by go_num, by rw [HS.out]; go_num⟩
        case measure => simp [intOf]; omega
      · go_wp2
        go_ret
        have : k = ls.length := by omega
        subst this
        rw [List.take_length]
        exact ⟨rfl, rfl⟩

def wireS (ls : List ByteArray) : ByteArray := if 255 < 1 + Nm.wsum ls then ByteArray.empty else ⟨(Nm.joinL ls).toArray⟩
def wireC (ls : List ByteArray) : Int := if 255 < 1 + Nm.wsum ls then 3 else 0

theorem wireS_short {ls : List ByteArray} (h : Nm.wsum ls ≤ 254) : wireS ls = ⟨(Nm.joinL ls).toArray⟩ := if_neg (by omega)
theorem wireC_short {ls : List ByteArray} (h : Nm.wsum ls ≤ 254) : wireC ls = 0 := if_neg (by omega)

theorem byte_len (x : ByteArray) (h : x.size ≤ 255) : [Value.int .u8 (x.size : Int)] = Nm.bys [UInt8.ofNat x.size] := by
  simp [Nm.bys]; omega

set_option maxRecDepth 100000 in
set_option maxHeartbeats 800000 in
theorem wire_any (v : Value) (ls : List ByteArray) (w : World) (h : Nm.SRow w v ls) (hlen : Nm.wsum ls ≤ 1000000000) :
    Calls Tryz.prog 80 #[v] w fun e w' => e = .returned (.tuple #[.string (wireS ls), .int .i64 (wireC ls)]) ∧ Below w.heap.size w w' := by
  have hws := wireSize_any v ls w h hlen
  obtain ⟨j0, hj, k0, k1, k2⟩ := info_parts Tryz.infoU8
  obtain ⟨a, cap, rfl, hcap, hmx, hnl, hc⟩ := h
  have hll := Nm.length_le_wsum ls
  by_cases hlong : 255 < 1 + Nm.wsum ls
  · have HS : Hid (wireS ls = ByteArray.empty) := if_pos hlong
    have HC : Hid (wireC ls = 3) := if_pos hlong
    have hl' : (255 : Int) < ((1 + Nm.wsum ls : Nat) : Int) := by omega
    clear hc
    go_enter Tryz.func80, Tryz.ntmps80
    go_wp2_with fail
    refine hws.mono ?_
    rintro e w1 ⟨rfl, rfl⟩
    go_wp2
    go_ret2
    rw [HS.out, HC.out]
    exact ⟨rfl, Below.refl _ _⟩
  · have HS : Hid (wireS ls = ⟨(Nm.joinL ls).toArray⟩) := if_neg hlong
    have HC : Hid (wireC ls = 0) := if_neg hlong
    have hl' : ((1 + Nm.wsum ls : Nat) : Int) ≤ 255 := by omega
    go_enter Tryz.func80, Tryz.ntmps80
    go_wp2_with fail
    refine hws.mono ?_
    rintro e w1 ⟨rfl, rfl⟩
    go_wp2_with (at_make; refine wpList_make_own _ rfl _ _ 128 rfl w1.heap.size 5 j0 (.int .u8 0) 1 Tryz.underlying128 hj k0 k1 .i64 .i64 _ (1 + Nm.wsum ls) rfl rfl rfl (by rw [k2]; omega) (by unfold maxLen; omega) (Nat.le_refl _) ?_; intro w2 hown0 hgrow0)
    go_loopw [5, 16] (fun v i wr => ∃ k : Nat, k ≤ ls.length ∧ i = .int .i64 k ∧ wr.ownsRow w1.heap.size 5 1 v (Nm.wsum (ls.take k)) (Nm.bys (Nm.preL (ls.take k))) ∧ Below w1.heap.size w1 wr)
      (fun _ i _ => ls.length - (intOf i).toNat)
    case atStart => exact ⟨0, Nat.zero_le _, rfl, hown0, (Below.refl _ w1).grown hgrow0 (Nat.le_refl _) (fun k hk => by cases hk)⟩
    case round =>
      obtain ⟨k, hk, rfl, hown, hbel⟩ := hrel
      have hw := Nm.wsum_take_le ls k
      have hsz := hbel.size
      by_cases hlt : k < ls.length
      · obtain ⟨x, hx⟩ : ∃ x, ls[k]? = some x := ⟨_, List.getElem?_eq_getElem hlt⟩
        obtain ⟨b, off, rfl, hcell⟩ := hc (by intro h; rw [h] at hlt; simp at hlt)
        have hcx : wr.cell? ⟨b, off + k, none⟩ = some (.string x) := (hbel.cell (World.block_lt_of_cell? w1 _ (hcell k x hx))).trans (hcell k x hx)
        have HW : Hid (Nm.wsum (ls.take (k + 1)) = Nm.wsum (ls.take k) + (1 + x.size)) := Nm.wsum_step hx
        have HP : Hid (Nm.preL (ls.take (k + 1)) = Nm.preL (ls.take k) ++ (UInt8.ofNat x.size :: x.data.toList)) := Nm.preL_step hx
        have hw1 : Nm.wsum (ls.take k) + (1 + x.size) ≤ Nm.wsum ls := by rw [← HW.out]; exact Nm.wsum_take_le ls (k + 1)
        clear hx hcell hc hnl hws hown0 hgrow0
        go_wp2_with (first | (at_builtin; refine wpList_append_own _ rfl (.tmp 20) (.tmp 24) 128 rfl w1.heap.size 5 j0 (.int .u8 0) 1 1 Tryz.underlying128 hj k0 k1 k2 rfl (by decide) _ _ _ rfl (hown.alloc _) ⟨wr.heap.size, 0, none⟩ 1 1 [.int .u8 (x.size : Int)] rfl rfl (cell_one_new _ _ _) (Nm.one_cell _ rfl) (by unfold maxLen; omega) (by omega) (by simp; omega) ?_; intro va wa hown1 hgrow1 hnl1; clear hnl1; rw [byte_len x (by omega)] at hown1; have R1 := Nm.bys_step (x := [UInt8.ofNat x.size]) (by simp; omega) (hown.alloc _) (hbel.alloc hsz _) hown1 hgrow1; clear hown1 hgrow1) | (at_builtin; refine Go.Lib.wpList_append_own_string _ rfl (.tmp 26) (.tmp 27) 128 9 rfl w1.heap.size 5 j0 Tryz.underlying128 Tryz.underlying9 hj k0 k1 k2 _ _ _ rfl R1.1 x rfl (by unfold maxLen; omega) (by omega) R1.2.size ?_; intro vb wb hown2 hgrow2 hnl2; clear hnl2; have R2 := Nm.bys_step_str R1.2.size R1.1 R1.2 hown2 hgrow2; clear hown2 hgrow2))
        go_roundw
        case rel => exact ⟨k + 1, by omega, by go_num, by rw [HW.out, HP.out]; simpa [Nat.add_assoc] using R2.1, R2.2⟩
        case measure => simp [intOf]; omega
      · have hkl : k = ls.length := by omega
        subst hkl
        rw [List.take_length] at hown
        clear hc hnl hws hown0 hgrow0 hw hlt
        have hone : (ByteArray.mk #[0]).size = 1 := rfl
        go_wp2_with (at_builtin; refine Go.Lib.wpList_append_own_string _ rfl (.tmp 30) _ 128 9 rfl w1.heap.size 5 j0 Tryz.underlying128 Tryz.underlying9 hj k0 k1 k2 _ _ _ rfl hown ⟨#[0]⟩ rfl (by unfold maxLen; omega) (by omega) hsz ?_; intro vb wb hown2 hgrow2 hnl2; clear hnl2; have R2 := Nm.bys_step_str hsz hown hbel hown2 hgrow2; clear hown2 hgrow2; obtain ⟨g, cp, rfl, hcv⟩ := Nm.conv_own (P := Tryz.prog) Tryz.underlying128 Tryz.underlying5 Tryz.underlying9 R2.1 (by omega); rw [hone] at hcv)
        go_ret2
        rw [HS.out, HC.out]
        exact ⟨rfl, R2.2⟩
end Go.Proofs.YtnpegoclghfmpaaGreat
/- (*tree).node by its contract. -/
namespace Go.Proofs.YtnpegoclghfmpaaGreat
open Go.RowKit
set_option linter.unusedVariables false

/-- A node that is handed back. -/
def NdV (N : Nd) (w : World) (e : Ending) (w' : World) : Prop := ∃ u, e = .returned (.agg #[.int .i64 N.kd, .string N.clo, .string N.cut, u]) ∧ w'.ownsRow w.heap.size 2 1 u N.ty.length (intCells N.ty) ∧ Below w.heap.size w w'
/-- A node stored into a block that is new. -/
theorem node_store {w w2 : World} {b B n : Nat} {kd : Int} {x y : ByteArray} {v : Value} {xs : List Value} (k : Blk w2 b #[.int .i64 0, .string ⟨#[]⟩, .string ⟨#[]⟩, .slice none 0 0] 48) (ho : w2.ownsRow B 2 1 v n xs) (hne : v.ownBlock ≠ some b) (hb : Below w.heap.size w w2) (hlb : w.heap.size ≤ b) :
    Blk ((((w2.setCell ⟨b, 0, none⟩ (.int .i64 kd)).setCell ⟨b, 1, none⟩ (.string x)).setCell ⟨b, 2, none⟩ (.string y)).setCell ⟨b, 3, none⟩ v) b #[.int .i64 kd, .string x, .string y, v] 48 ∧
    ((((w2.setCell ⟨b, 0, none⟩ (.int .i64 kd)).setCell ⟨b, 1, none⟩ (.string x)).setCell ⟨b, 2, none⟩ (.string y)).setCell ⟨b, 3, none⟩ v).ownsRow B 2 1 v n xs ∧
    Below w.heap.size w ((((w2.setCell ⟨b, 0, none⟩ (.int .i64 kd)).setCell ⟨b, 1, none⟩ (.string x)).setCell ⟨b, 2, none⟩ (.string y)).setCell ⟨b, 3, none⟩ v) := by
  have k4 := blk_set (blk_set (blk_set (blk_set k 0 (.int .i64 kd)) 1 (.string x)) 2 (.string y)) 3 v
  simp only [List.setIfInBounds_toArray, List.set_cons_zero, List.set_cons_succ] at k4
  have ho4 := own_far (y := v) (i := 3) (g := b) (own_far (y := .string y) (i := 2) (g := b) (own_far (y := .string x) (i := 1) (g := b) (own_far (y := .int .i64 kd) (i := 0) (g := b) ho hne) hne) hne) hne
  exact ⟨k4, ho4, (((hb.setCell (p := ⟨b, 0, none⟩) hlb (.int .i64 kd)).setCell (p := ⟨b, 1, none⟩) hlb (.string x)).setCell (p := ⟨b, 2, none⟩) hlb (.string y)).setCell (p := ⟨b, 3, none⟩) hlb v⟩
/-- The state of the walk: the result's block, the node's block, the row. -/
structure NdS (w W : World) (zb p : Nat) (a b c u : Value) (l : List Int) : Prop where
  z : Blk W zb #[.int .i64 0, .string ⟨#[]⟩, .string ⟨#[]⟩, .slice none 0 0] 48
  k : Blk W p #[a, b, c, u] 48
  le : w.heap.size ≤ zb
  lt : zb < p
  row : W.ownsRow w.heap.size 2 1 u l.length (intCells l)
  far : ∀ g, u.ownBlock = some g → p < g
  be : Below w.heap.size w W
theorem NdS.below {w W W' : World} {zb p : Nat} {a b c u : Value} {l : List Int} (h : NdS w W zb p a b c u l) (hb : Below W.heap.size W W') : NdS w W' zb p a b c u l :=
  ⟨blk_below h.z hb, blk_below h.k hb, h.le, h.lt, own_below h.row hb, h.far, Nm.below_two h.be hb⟩
theorem NdS.put {w W : World} {zb p i : Nat} {a b c u y a' b' c' : Value} {l : List Int} (h : NdS w W zb p a b c u l) (e : (#[a, b, c, u] : Array Value).setIfInBounds i y = #[a', b', c', u]) : NdS w (W.setCell ⟨p, i, none⟩ y) zb p a' b' c' u l :=
  ⟨blk_far h.z (by have := h.lt; omega), by rw [← e]; exact blk_set h.k i y, h.le, h.lt, own_far h.row (fun e => by have := h.far _ e; omega), h.far, h.be.setCell (p := ⟨p, i, none⟩) (by have := h.lt; have := h.le; show w.heap.size ≤ p; omega) y⟩
theorem NdS.set0 {w W : World} {zb p : Nat} {a b c u y : Value} {l : List Int} (h : NdS w W zb p a b c u l) : NdS w (W.setCell ⟨p, 0, none⟩ y) zb p y b c u l := h.put rfl
theorem NdS.set1 {w W : World} {zb p : Nat} {a b c u y : Value} {l : List Int} (h : NdS w W zb p a b c u l) : NdS w (W.setCell ⟨p, 1, none⟩ y) zb p a y c u l := h.put rfl
theorem NdS.set2 {w W : World} {zb p : Nat} {a b c u y : Value} {l : List Int} (h : NdS w W zb p a b c u l) : NdS w (W.setCell ⟨p, 2, none⟩ y) zb p a b y u l := h.put rfl
theorem NdS.set3 {w W W' : World} {zb p : Nat} {a b c u y : Value} {l m : List Int} (h : NdS w W zb p a b c u l) (hb : Below W.heap.size W W') (ho : W'.ownsRow W.heap.size 2 1 y m.length (intCells m)) : NdS w (W'.setCell ⟨p, 3, none⟩ y) zb p a b c y m := by
  have h' := h.below hb
  have hp := blk_lt h.k
  have hf : ∀ g, y.ownBlock = some g → p < g := fun g e => by have := (ho.lt g e).1; omega
  exact ⟨blk_far h'.z (by have := h.lt; omega), blk_set h'.k 3 y, h.le, h.lt, own_far (own_base ho h.be.size) (fun e => by have := hf _ e; omega), hf, h'.be.setCell (p := ⟨p, 3, none⟩) (by have := h.lt; have := h.le; show w.heap.size ≤ p; omega) y⟩
theorem NdS.start {w w2 w3 : World} {zb : Nat} (k : Blk w2 zb #[.int .i64 0, .string ⟨#[]⟩, .string ⟨#[]⟩, .slice none 0 0] 48) (hz : w.heap.size ≤ zb) (hb : Below w.heap.size w w2) (h3 : Below (w2.alloc (.cells #[.int .i64 0, .string ⟨#[]⟩, .string ⟨#[]⟩, .slice none 0 0] 48)).heap.size (w2.alloc (.cells #[.int .i64 0, .string ⟨#[]⟩, .string ⟨#[]⟩, .slice none 0 0] 48)) w3) :
    NdS w w3 zb w2.heap.size (.int .i64 0) (.string ⟨#[]⟩) (.string ⟨#[]⟩) (.slice none 0 0) [] :=
  ⟨blk_below (blk_alloc k _) h3, blk_below (blk_new w2 #[.int .i64 0, .string ⟨#[]⟩, .string ⟨#[]⟩, .slice none 0 0] 48) h3, hz, blk_lt k, World.ownsRow_nil _ _ _ _, by simp [Value.ownBlock], Nm.below_two (hb.alloc hb.size _) h3⟩
theorem NdS.done {w W : World} {zb p : Nat} {kd : Int} {x y : ByteArray} {u : Value} {l : List Int} (h : NdS w W zb p (.int .i64 kd) (.string x) (.string y) u l) :
    Blk ((((W.setCell ⟨zb, 0, none⟩ (.int .i64 kd)).setCell ⟨zb, 1, none⟩ (.string x)).setCell ⟨zb, 2, none⟩ (.string y)).setCell ⟨zb, 3, none⟩ u) zb #[.int .i64 kd, .string x, .string y, u] 48 ∧
    NdV ⟨kd, x, y, l⟩ w (.returned (.agg #[.int .i64 kd, .string x, .string y, u])) ((((W.setCell ⟨zb, 0, none⟩ (.int .i64 kd)).setCell ⟨zb, 1, none⟩ (.string x)).setCell ⟨zb, 2, none⟩ (.string y)).setCell ⟨zb, 3, none⟩ u) := by
  obtain ⟨h1, h2, h3⟩ := node_store (kd := kd) (x := x) (y := y) h.z h.row (fun e => by have := h.far _ e; have := h.lt; omega) h.be h.le
  exact ⟨h1, _, rfl, h2, h3⟩
theorem isIn_own {os : List GOw} (h : OwS os) (lab : List ByteArray) : (isIn (oCmp lab) os = true ∧ ∃ q ∈ os, os[posOf (oCmp lab) os]? = some q ∧ Nm.cmpLs q.lab lab = 0) ∨ (isIn (oCmp lab) os = false ∧ ∀ q ∈ os, Nm.cmpLs q.lab lab ≠ 0) := by
  rcases place_split (f := oCmp lab) h (oCmp_mono lab) with ⟨hi, A, C, e, hp, ha, hc⟩ | ⟨hi, A, o, C, e, hp, h0, ha, hc⟩
  · refine .inr ⟨hi, fun q hq h1 => ?_⟩
    rw [e] at hq
    rcases List.mem_append.1 hq with hq | hq
    · have := ha q hq; rw [oCmp] at this; omega
    · have := hc q hq; rw [oCmp] at this; omega
  · obtain ⟨x, hx, h0⟩ := isIn_some hi
    exact .inl ⟨hi, x, List.mem_of_getElem? hx, hx, h0⟩
def tyF (lab : List ByteArray) (q : GOw) : List Int := if Nm.cmpLs q.lab lab = 0 then q.ss.map (·.ty) else []
theorem typ_flat {name : ByteArray} {lab : List ByteArray} (hn : Nm.split name = some lab) : ∀ (os : List GOw), (∀ q ∈ os, Nm.split q.nm = some q.lab) → typZ (zoneT os) name = os.flatMap (tyF lab)
  | [], _ => rfl
  | q :: os, h => by
    have ih := typ_flat hn os (fun r hr => h r (List.mem_cons_of_mem _ hr))
    have e1 : zoneT (q :: os) = (q.ss.map fun s => szT (q, s)) ++ zoneT os := by
      simp [zoneT, grT, List.flatMap_cons, List.map_append, List.map_map, Function.comp_def]
    have e2 : typZ (zoneT (q :: os)) name = typZ (q.ss.map fun s => szT (q, s)) name ++ typZ (zoneT os) name := by
      rw [e1, typZ, typZ, typZ, List.filter_append, List.map_append]
    rw [e2, ih, List.flatMap_cons]
    congr 1
    have hs : sameS q.nm name = decide (Nm.cmpLs q.lab lab = 0) := same_cmp (h q List.mem_cons_self) hn
    rw [typZ, tyF]
    by_cases hc : Nm.cmpLs q.lab lab = 0
    · rw [if_pos hc, List.filter_eq_self.2 (fun z hz => by obtain ⟨s, -, rfl⟩ := List.mem_map.1 hz; show sameS q.nm name = true; rw [hs]; simpa using hc)]
      rw [List.map_map]; rfl
    · rw [if_neg hc, List.filter_eq_nil_iff.2 (fun z hz => by obtain ⟨s, -, rfl⟩ := List.mem_map.1 hz; show ¬ sameS q.nm name = true; rw [hs]; simpa using hc)]
      rfl
theorem flat_no {lab : List ByteArray} {os : List GOw} (h : ∀ q ∈ os, Nm.cmpLs q.lab lab ≠ 0) : os.flatMap (tyF lab) = [] := by
  rw [List.flatMap_eq_nil_iff]
  intro q hq
  rw [tyF, if_neg (h q hq)]
theorem flat_yes {lab : List ByteArray} : ∀ {os : List GOw}, OwS os → ∀ q ∈ os, Nm.cmpLs q.lab lab = 0 → os.flatMap (tyF lab) = q.ss.map (·.ty)
  | [], _, _, hq, _ => by cases hq
  | r :: os, h, q, hq, h0 => by
    obtain ⟨h1, h2⟩ := List.pairwise_cons.1 h
    rw [List.flatMap_cons]
    rcases List.mem_cons.1 hq with rfl | hq
    · rw [flat_no (lab := lab) (fun x hx e => by have := h1 x hx; rw [cmpLs_eq_left h0, ] at this; have h9 := cmpLs_symm e; omega), tyF, if_pos h0, List.append_nil]
    · have := h1 q hq
      rw [flat_yes h2 q hq h0, tyF, if_neg (fun e => by rw [cmpLs_eq_left e] at this; have h9 := cmpLs_symm h0; omega)]
      rfl
theorem TZ.ty {o name : ByteArray} {al lab : List ByteArray} {os : List GOw} (h : TZ os o al) (hn : Nm.split name = some lab) : tyT os lab = typZ (zoneT os) name ∧ (isIn (oCmp lab) os = true ↔ 0 < (typZ (zoneT os) name).length) := by
  rw [typ_flat hn os h.nm, tyT]
  rcases isIn_own h.srt.1 lab with ⟨hi, q, hq, hp, h0⟩ | ⟨hi, hno⟩
  · rw [flat_yes h.srt.1 q hq h0, hi, hp]
    refine ⟨rfl, fun _ => ?_, fun _ => rfl⟩
    obtain ⟨s, hs⟩ := h.full q hq
    have := List.length_pos_of_mem hs
    simpa using this
  · rw [flat_no hno, hi]
    simp

theorem cut_some {os : List GOw} {lab : List ByteArray} (hs : OwS os ∧ ∀ q ∈ os, SeS q.ss) : ∀ (n : Nat), (cutT os lab n = none ∧ ∀ m, m < n → hasT (lab.drop m) 2 os = false) ∨ (∃ m q, m < n ∧ cutT os lab n = some q ∧ q ∈ os ∧ Nm.cmpLs q.lab (lab.drop m) = 0 ∧ (∃ s ∈ q.ss, s.ty = 2) ∧ ∀ m', m < m' → m' < n → hasT (lab.drop m') 2 os = false)
  | 0 => .inl ⟨rfl, fun m hm => by omega⟩
  | n + 1 => by
    cases hh : hasT (lab.drop n) 2 os with
    | true =>
      refine .inr ⟨n, ?_⟩
      obtain ⟨q, hq, h0, h2⟩ := (hasT_iff hs _ _).1 hh
      rcases isIn_own hs.1 (lab.drop n) with ⟨hi, r, hr, hp, hr0⟩ | ⟨hi, hno⟩
      · have hsr : ∃ s ∈ r.ss, s.ty = 2 := by
          rw [hasT, hp, hi] at hh
          exact (isIn_set (hs.2 r hr) 2).1 hh
        exact ⟨r, by omega, by rw [cutT, if_pos hh]; exact hp, hr, hr0, hsr, fun m' h1 h2 => by omega⟩
      · exact absurd h0 (hno q hq)
    | false =>
      have e : cutT os lab (n + 1) = cutT os lab n := by rw [cutT, if_neg (by rw [hh]; decide)]
      rw [e]
      rcases cut_some hs n with ⟨h1, h2⟩ | ⟨m, q, h1, h2, h3, h4, h5, h6⟩
      · refine .inl ⟨h1, fun m hm => ?_⟩
        rcases Nat.lt_or_ge m n with h | h
        · exact h2 m h
        · obtain rfl : m = n := by omega
          exact hh
      · refine .inr ⟨m, q, by omega, h2, h3, h4, h5, fun m' ha hb => ?_⟩
        rcases Nat.lt_or_ge m' n with h | h
        · exact h6 m' ha h
        · obtain rfl : m' = n := by omega
          exact hh
theorem cutStep_or (o name best : ByteArray) (s : Sz) : (cutStep o name best s = s.own ∧ candZ o name s = true ∧ (best = ⟨#[]⟩ ∨ labN s.own < labN best)) ∨ (cutStep o name best s = best ∧ (candZ o name s = false ∨ (best ≠ ⟨#[]⟩ ∧ labN best ≤ labN s.own))) := by
  rw [cutStep]
  split
  · rename_i h
    simp only [Bool.and_eq_true, Bool.or_eq_true, decide_eq_true_eq] at h
    exact .inl ⟨rfl, h⟩
  · rename_i h
    refine .inr ⟨rfl, ?_⟩
    cases hc : candZ o name s with
    | false => exact .inl rfl
    | true =>
      rw [hc] at h
      simp only [Bool.true_and, Bool.or_eq_true, decide_eq_true_eq, not_or, Nat.not_lt] at h
      exact .inr h
theorem cutZ_cases (o name : ByteArray) (hne : ∀ s : Sz, candZ o name s = true → s.own ≠ ⟨#[]⟩) (ss : List Sz) : (cutZ ss o name = ⟨#[]⟩ ∧ ∀ s ∈ ss, candZ o name s = false) ∨ (∃ s ∈ ss, cutZ ss o name = s.own ∧ candZ o name s = true ∧ ∀ t ∈ ss, candZ o name t = true → labN s.own ≤ labN t.own) := by
  refine snoc_ind (P := fun ss => (cutZ ss o name = ⟨#[]⟩ ∧ ∀ s ∈ ss, candZ o name s = false) ∨ (∃ s ∈ ss, cutZ ss o name = s.own ∧ candZ o name s = true ∧ ∀ t ∈ ss, candZ o name t = true → labN s.own ≤ labN t.own)) (.inl ⟨rfl, by simp⟩) (fun l a ih => ?_) ss
  have e : cutZ (l ++ [a]) o name = cutStep o name (cutZ l o name) a := by simp [cutZ, List.foldl_append]
  rw [e]
  rcases ih with ⟨h1, h2⟩ | ⟨s, hs, h1, h2, h3⟩
  · rw [h1]
    rcases cutStep_or o name ⟨#[]⟩ a with ⟨e1, e2, e3⟩ | ⟨e1, e2 | ⟨e2, -⟩⟩
    · refine .inr ⟨a, by simp, e1, e2, fun t ht hc => ?_⟩
      rcases List.mem_append.1 ht with ht | ht
      · rw [h2 t ht] at hc; cases hc
      · rw [List.mem_singleton.1 ht]; exact Nat.le_refl _
    · refine .inl ⟨e1, fun s hs => ?_⟩
      rcases List.mem_append.1 hs with hs | hs
      · exact h2 s hs
      · rw [List.mem_singleton.1 hs]; exact e2
    · exact absurd rfl e2
  · rw [h1]
    rcases cutStep_or o name s.own a with ⟨e1, e2, e3⟩ | ⟨e1, e2⟩
    · have e4 : labN a.own < labN s.own := by
        rcases e3 with e3 | e3
        · exact absurd e3 (hne s h2)
        · exact e3
      refine .inr ⟨a, by simp, e1, e2, fun t ht hc => ?_⟩
      rcases List.mem_append.1 ht with ht | ht
      · have := h3 t ht hc; omega
      · rw [List.mem_singleton.1 ht]; exact Nat.le_refl _
    · refine .inr ⟨s, by simp [hs], e1, h2, fun t ht hc => ?_⟩
      rcases List.mem_append.1 ht with ht | ht
      · exact h3 t ht hc
      · rw [List.mem_singleton.1 ht] at hc ⊢
        rcases e2 with e2 | e2
        · rw [e2] at hc; cases hc
        · exact e2.2
theorem split_ne {a : ByteArray} {xs : List ByteArray} (h : Nm.split a = some xs) : a ≠ ⟨#[]⟩ := by
  rintro rfl
  have := (Nm.split_size h).1
  simp [ByteArray.size] at this
theorem cand_ne {o name : ByteArray} {s : Sz} (h : candZ o name s = true) : s.own ≠ ⟨#[]⟩ := by
  rw [candZ, Bool.and_eq_true] at h
  intro e
  have h2 := h.2
  rw [isUnder_right (by rw [e]; cases hq : Nm.split ⟨#[]⟩ with | none => rfl | some xs => exact absurd rfl (split_ne hq))] at h2
  cases h2
theorem labN_eq {a : ByteArray} {xs : List ByteArray} (h : Nm.split a = some xs) : labN a = xs.length := by rw [labN, h]; rfl

/-- A candidate of the zone is an owner with a set of type 2 above the name. -/
theorem TZ.cand {o name : ByteArray} {al lab : List ByteArray} {os : List GOw} (h : TZ os o al) (hn : Nm.split name = some lab) {q : GOw} {s : GSe} (hq : q ∈ os) : candZ o name (szT (q, s)) = true ↔ s.ty = 2 ∧ al.length < q.lab.length ∧ underB lab q.lab = true := by
  have e1 : sameS q.nm o = decide (Nm.cmpLs q.lab al = 0) := same_cmp (h.nm q hq) h.ap
  have e2 : isUnderS name q.nm = underB lab q.lab := isUnder_some hn (h.nm q hq)
  show (decide (s.ty = 2) && !sameS q.nm o && isUnderS name q.nm) = true ↔ _
  rw [e1, e2, under_len (h.und q hq)]
  simp only [Bool.and_eq_true, decide_eq_true_eq, Bool.not_eq_true', decide_eq_false_iff_not]
  rw [and_assoc]
theorem TZ.cut {o name : ByteArray} {al lab : List ByteArray} {os : List GOw} (h : TZ os o al) (hn : Nm.split name = some lab) (hu : underB lab al = true) : cutN (cutT os lab (lab.length - al.length)) = cutZ (zoneT os) o name := by
  have hal := (under_iff.1 hu).1
  rcases cut_some (lab := lab) h.srt (lab.length - al.length) with ⟨c1, c2⟩ | ⟨m, q, c1, c2, c3, c4, ⟨s, hs, hs2⟩, c6⟩
  · rw [c1]
    rcases cutZ_cases o name (fun s hs => cand_ne hs) (zoneT os) with ⟨z1, z2⟩ | ⟨z, hz, z1, z2, z3⟩
    · rw [z1]; rfl
    · exfalso
      obtain ⟨g, hg, rfl⟩ := List.mem_map.1 hz
      obtain ⟨g1, g2⟩ := grT_mem.1 hg
      obtain ⟨k1, k2, k3⟩ := (h.cand hn g1).1 z2
      obtain ⟨u1, u2⟩ := under_iff.1 k3
      have h1 := c2 (lab.length - g.1.lab.length) (by omega)
      rw [(hasT_iff h.srt _ _).2 ⟨g.1, g1, cmpLs_symm u2, g.2, g2, k1⟩] at h1
      cases h1
  · rw [c2]
    have hlq : q.lab.length = lab.length - m := by rw [len_same c4, List.length_drop]
    have hcq : candZ o name (szT (q, s)) = true := (h.cand hn c3).2 ⟨hs2, by omega, under_iff.2 ⟨by omega, by rw [hlq, show lab.length - (lab.length - m) = m by omega]; exact cmpLs_symm c4⟩⟩
    rcases cutZ_cases o name (fun s hs => cand_ne hs) (zoneT os) with ⟨z1, z2⟩ | ⟨z, hz, z1, z2, z3⟩
    · rw [z2 _ (List.mem_map_of_mem (grT_mem.2 ⟨c3, hs⟩))] at hcq; cases hcq
    · obtain ⟨g, hg, rfl⟩ := List.mem_map.1 hz
      obtain ⟨g1, g2⟩ := grT_mem.1 hg
      obtain ⟨k1, k2, k3⟩ := (h.cand hn g1).1 z2
      obtain ⟨u1, u2⟩ := under_iff.1 k3
      have hle : labN g.1.nm ≤ labN q.nm := z3 _ (List.mem_map_of_mem (grT_mem.2 ⟨c3, hs⟩)) hcq
      rw [labN_eq (h.nm g.1 g1), labN_eq (h.nm q c3)] at hle
      have hge : ¬ m < lab.length - g.1.lab.length := fun hlt => by
        have h1 := c6 (lab.length - g.1.lab.length) hlt (by omega)
        rw [(hasT_iff h.srt _ _).2 ⟨g.1, g1, cmpLs_symm u2, g.2, g2, k1⟩] at h1
        cases h1
      have hm : lab.length - g.1.lab.length = m := by omega
      rw [hm] at u2
      have e := h.one q c3 g.1 g1 (by rw [cmpLs_eq_left c4]; exact u2)
      rw [z1, e]; rfl

theorem clo_drop (os : List GOw) : ∀ (y : List ByteArray), ∃ k, k ≤ y.length ∧ cloT os y = y.drop k
  | [] => ⟨0, Nat.le_refl _, rfl⟩
  | x :: xs => by
    rw [cloT]
    split
    · exact ⟨0, Nat.zero_le _, rfl⟩
    · obtain ⟨k, hk, e⟩ := clo_drop os xs
      exact ⟨k + 1, by simpa using hk, by rw [e]; rfl⟩
theorem kdZ_none (name clo : ByteArray) (ty : List Int) : kdZ name clo ⟨#[]⟩ ty = if 0 < ty.length then 3 else if clo = name then 2 else 1 := by rw [kdZ, if_neg (by simp)]
theorem kdZ_some {name clo cut : ByteArray} {ty : List Int} (h : cut ≠ ⟨#[]⟩) : kdZ name clo cut ty = if sameS cut name = true then 4 else 5 := by rw [kdZ, if_pos h]
theorem TZ.nd {ps : List Zp} {o name : ByteArray} {al lab : List ByteArray} {os : List GOw} (h : TZ os o al) (hzs : ps.map (·.1) = zoneT os) (hn : Nm.split name = some lab) : ndT os al lab = ndZ ps o name := by
  have hg := gl_split hn
  rw [ndT, ndZ, isUnder_some hn h.ap, hn]
  cases hu : underB lab al with
  | false => rfl
  | true =>
    simp only [if_true, Option.getD_some]
    rw [hzs, ← h.clo hzs lab hg hu, ← h.cut hn hu, ← (h.ty hn).1]
    congr 1
    obtain ⟨k, hk, ek⟩ := clo_drop os lab
    have hty := (h.ty hn).2
    rw [← (h.ty hn).1] at hty
    rcases cut_some (lab := lab) h.srt (lab.length - al.length) with ⟨c1, c2⟩ | ⟨m, q, c1, c2, c3, c4, -, c6⟩
    · rw [c1, kdT, cutN, kdZ_none]
      cases hi : isIn (oCmp lab) os with
      | true => simp only [if_true, if_pos (hty.1 hi)]
      | false =>
        have hnt : ¬ 0 < (tyT os lab).length := fun e => by rw [hty.2 e] at hi; cases hi
        simp only [Bool.false_eq_true, if_false, if_neg hnt]
        have e2 : (cloT os lab).length = lab.length ↔ joB (cloT os lab) = name := by
          rw [ek]
          constructor
          · intro e
            rw [List.length_drop] at e
            rcases Nat.eq_zero_or_pos k with rfl | hk0
            · rw [List.drop_zero]; exact split_jo hn
            · have h0 : lab.length = 0 := by omega
              rw [show lab.drop k = lab by rw [List.length_eq_zero_iff.1 h0]; simp]
              exact split_jo hn
          · intro e
            rw [jo_inj (hg.drop k) hg (by rw [e, split_jo hn])]
        by_cases hc : (cloT os lab).length = lab.length
        · rw [if_pos hc, if_pos (e2.1 hc)]
        · rw [if_neg hc, if_neg (fun e => hc (e2.2 e))]
    · rw [c2, kdT, cutN, kdZ_some (split_ne (h.nm q c3)), same_cmp (h.nm q c3) hn]
      have hlq : q.lab.length = lab.length - m := by rw [len_same c4, List.length_drop]
      by_cases hm : q.lab.length = lab.length
      · have e : lab.drop m = lab := by
          rcases Nat.eq_zero_or_pos m with rfl | h0
          · rfl
          · have h1 : lab.length = 0 := by omega
            rw [List.length_eq_zero_iff.1 h1]; simp
        rw [e] at c4
        rw [if_pos hm, if_pos (by simpa using c4)]
      · rw [if_neg hm, if_neg (fun e => hm (len_same (by simpa using e)))]
end Go.Proofs.YtnpegoclghfmpaaGreat
/- A name without its first labels: mathematics. -/
namespace Go.Proofs.YtnpegoclghfmpaaGreat
open Go.RowKit

def ancS (s : ByteArray) (n : Int) : ByteArray × Int :=
  match Nm.split s with
  | none => (ByteArray.empty, 32)
  | some ls => if 0 ≤ n ∧ n ≤ ls.length then (⟨(Nm.joinL (ls.drop n.toNat)).toArray⟩, 0) else (ByteArray.empty, 32)
end Go.Proofs.YtnpegoclghfmpaaGreat
/- spec.Ancestor by its contract. -/
namespace Go.Proofs.YtnpegoclghfmpaaGreat
open Go.RowKit

set_option maxRecDepth 100000 in
set_option maxHeartbeats 800000 in
theorem specAncestor_any (s : ByteArray) (n : Int) (w : World) (hs : s.size ≤ maxLen) :
    Calls Tryz.prog 41 #[.string s, .int .i64 n] w fun e w' => e = .returned (.tuple #[.string (ancS s n).1, .int .i64 (ancS s n).2]) ∧ Below w.heap.size w w' := by
  have hsp := l01Split_any s w hs
  cases hq : Nm.split s with
  | none =>
    have HA : Hid (ancS s n = (ByteArray.empty, 32)) := by show _ = _; simp [ancS, hq]
    rw [hq] at hsp
    clear hq
    go_enter Tryz.func41, Tryz.ntmps41
    go_wp2_with fail
    refine hsp.mono ?_
    rintro e w1 ⟨v, rfl, hown, hbel⟩
    go_wp2
    go_ret2
    rw [HA.out]
    exact ⟨rfl, hbel⟩
  | some ls =>
    have hz := Nm.split_size hq
    rw [hq] at hsp
    by_cases hr : 0 ≤ n ∧ n ≤ ls.length
    · have HA : Hid (ancS s n = (⟨(Nm.joinL (ls.drop n.toNat)).toArray⟩, 0)) := by show _ = _; simp [ancS, hq, hr]
      clear hq
      obtain ⟨h0, h1⟩ := hr
      obtain ⟨k, rfl⟩ := Int.eq_ofNat_of_zero_le h0
      go_enter Tryz.func41, Tryz.ntmps41
      go_wp2_with fail
      refine hsp.mono ?_
      rintro e w1 ⟨v, rfl, hown, hbel⟩
      have hrow := Nm.SRow.of_owns hown
      obtain ⟨a, cap, rfl, hcap, hmx, hnl, hc⟩ := hrow
      simp only [Option.getD_some] at hown
      have hd1 := fun e : cap = k => (Nm.SRow.of_owns hown).drop_all e
      have hd2 := (Nm.SRow.of_owns hown).drop (k := k) (by omega)
      have hwd := Nm.wsum_drop_le ls k
      have hkd : decide ((k : Int) < 0) = false := by simp
      clear hown hc
      by_cases hck : cap = k
      · have hd := hd1 hck
        clear hd1 hd2
        subst hck
        go_wp2_with fail
        refine (l01Join_any _ (ls.drop cap) _ hd (by omega)).mono ?_
        rintro e w2 ⟨rfl, hbel2⟩
        go_wp2
        go_ret2
        rw [HA.out]
        exact ⟨rfl, Nm.below_two hbel hbel2⟩
      · clear hd1
        go_wp2_with fail
        refine (l01Join_any _ (ls.drop k) _ hd2 (by omega)).mono ?_
        rintro e w2 ⟨rfl, hbel2⟩
        go_wp2
        go_ret2
        rw [HA.out]
        exact ⟨rfl, Nm.below_two hbel hbel2⟩
    · have HA : Hid (ancS s n = (ByteArray.empty, 32)) := by show _ = _; simp only [ancS, hq]; rw [if_neg hr]
      clear hq
      go_enter Tryz.func41, Tryz.ntmps41
      go_wp2_with fail
      refine hsp.mono ?_
      rintro e w1 ⟨v, rfl, hown, hbel⟩
      obtain ⟨a, cap, rfl, hcap, hmx, hnl, hc⟩ := Nm.SRow.of_owns hown
      simp only [Option.getD_some] at hown hcap hc
      by_cases h0 : n < 0
      · have hd : decide (n < 0) = true := by simp [h0]
        go_wp2
        go_ret2
        rw [HA.out]
        exact ⟨rfl, hbel⟩
      · have hd : decide (n < 0) = false := by simp; omega
        have hgt : (ls.length : Int) < n := by omega
        go_wp2
        go_ret2
        rw [HA.out]
        exact ⟨rfl, hbel⟩
end Go.Proofs.YtnpegoclghfmpaaGreat
/- spec.l06Node by its contract. -/
namespace Go.Proofs.YtnpegoclghfmpaaGreat
open Go.RowKit
set_option linter.unusedVariables false

theorem cloZ_stop {th : ByteArray → Bool} {y : List ByteArray} (h : th (joB y) = true) : cloZ th y = y := by
  cases y with
  | nil => rfl
  | cons x xs => rw [cloZ, if_pos h]
theorem cloZ_go {th : ByteArray → Bool} {y : List ByteArray} (h : th (joB y) = false) (hex : ∃ j, j ≤ y.length ∧ th (joB (y.drop j)) = true) : 0 < y.length ∧ cloZ th y = cloZ th (y.drop 1) ∧ ∃ j, j ≤ (y.drop 1).length ∧ th (joB ((y.drop 1).drop j)) = true := by
  obtain ⟨j, hj, ht⟩ := hex
  cases j with
  | zero => rw [List.drop_zero, h] at ht; cases ht
  | succ j =>
    cases y with
    | nil => simp at hj
    | cons x xs =>
      refine ⟨by simp, ?_, j, by simpa using hj, by simpa using ht⟩
      rw [cloZ, if_neg (by rw [h]; decide)]
      rfl
theorem anc_jo {name : ByteArray} {lab : List ByteArray} (h : Nm.split name = some lab) {k : Nat} (hk : k ≤ lab.length) : ancS name k = (joB (lab.drop k), 0) := by
  rw [ancS, h]
  show (if _ then _ else _) = _
  rw [if_pos (by constructor <;> omega)]
  simp [joB]
theorem jo_ne (ls : List ByteArray) : joB ls ≠ ⟨#[]⟩ := by
  intro e
  have h := congrArg ByteArray.size e
  simp [joB, ByteArray.size, Nm.joinL] at h
theorem ba_pos {a : ByteArray} (h : a ≠ ⟨#[]⟩) : 0 < a.size := Nat.pos_of_ne_zero fun e => h (by
  cases a with | mk d =>
  congr
  exact Array.eq_empty_of_size_eq_zero e)
theorem jo_size {ls : List ByteArray} (h : Gl ls) : (joB ls).size ≤ 255 := by
  have h1 := h.2
  have h2 := Nm.joinL_length ls
  simp [joB, ByteArray.size]
  omega

set_option maxRecDepth 100000 in
set_option maxHeartbeats 3200000 in
theorem l06Node_any (o name : ByteArray) (lab : List ByteArray) (v : Value) (ps : List Zp) (w : World) (h : ZRow w v ps) (hl : ps.length ≤ 1048576) (hf : ∀ p ∈ ps, p.1.own.size ≤ 1048576) (hn : Nm.split name = some lab) (ho : o.size ≤ maxLen) (hex : isUnderS name o = true → ∃ j, j ≤ lab.length ∧ thZ ps o (joB (lab.drop j)) = true) :
    Calls Tryz.prog 47 #[.agg #[.string o, v], .string name] w (NdV (ndZ ps o name) w) := by
  obtain ⟨va, vc, rfl⟩ : ∃ va vc, v = .slice va ps.length vc := by obtain ⟨⟨_, a, c, e, _⟩, _⟩ := h; exact ⟨a, c, e⟩
  have hgl := gl_split hn
  have hns : name.size ≤ 255 := (Nm.split_size hn).2
  have hll : lab.length ≤ 254 := Nat.le_trans (Nm.length_le_wsum lab) hgl.2
  have b0 := (Below.refl w.heap.size w).alloc (Nat.le_refl _) (.cells #[.string o, .slice va ps.length vc] 29)
  have b1 := b0.alloc b0.size (.cells #[.int .i64 0, .string ⟨#[]⟩, .string ⟨#[]⟩, .slice none 0 0] 48)
  have k1 := blk_alloc (blk_new w #[.string o, .slice va ps.length vc] 29) (.cells #[.int .i64 0, .string ⟨#[]⟩, .string ⟨#[]⟩, .slice none 0 0] 48)
  have kN := blk_new (w.alloc (.cells #[.string o, .slice va ps.length vc] 29)) #[.int .i64 0, .string ⟨#[]⟩, .string ⟨#[]⟩, .slice none 0 0] 48
  rw [World.size_alloc] at kN
  have sN := NdS.start kN (Nat.le_succ _) b1 (Below.refl _ _)
  have kZ := blk_alloc k1 (.cells #[.int .i64 0, .string ⟨#[]⟩, .string ⟨#[]⟩, .slice none 0 0] 48)
  rw [World.size_alloc, World.size_alloc] at sN
  have HU := Nm.hide (fun W => specIsUnder_any name o W (by unfold maxLen; omega) ho)
  have HA : Hid (∀ (k : Nat), k ≤ lab.length → ∀ W, Calls Tryz.prog 41 #[.string name, .int .i64 k] W fun e w' => e = .returned (.tuple #[.string (joB (lab.drop k)), .int .i64 0]) ∧ Below W.heap.size W w') := fun k hk W => by
    have := specAncestor_any name k W (by unfold maxLen; omega)
    rwa [anc_jo hn hk] at this
  have HT : Hid (∀ (k : Nat) W, Below w.heap.size w W → Calls Tryz.prog 82 #[.agg #[.string o, .slice va ps.length vc], .string (joB (lab.drop k))] W fun e w' => e = .returned (.bool (thZ ps o (joB (lab.drop k)))) ∧ Below W.heap.size W w') := fun k W hW => l06There_any o _ _ ps W (h.below hW) hf (by have := jo_size (hgl.drop k); unfold maxLen; omega) ho
  have HX : Hid (∀ W, Below w.heap.size w W → Calls Tryz.prog 83 #[.agg #[.string o, .slice va ps.length vc], .string name] W fun e w' => e = .returned (.string (cutZ (ps.map (·.1)) o name)) ∧ Below W.heap.size W w') := fun W hW => l06Cut_any o name _ ps W (h.below hW) hf (by unfold maxLen; omega) ho
  have HY : Hid (∀ W, Below w.heap.size w W → Calls Tryz.prog 84 #[.agg #[.string o, .slice va ps.length vc], .string name] W fun e w' => ∃ u, e = .returned u ∧ w'.ownsRow W.heap.size 2 1 u (typZ (ps.map (·.1)) name).length (intCells (typZ (ps.map (·.1)) name)) ∧ Below W.heap.size W w') := fun W hW => l06Types_any o name _ ps W (h.below hW) hl hf (by unfold maxLen; omega)
  have HTL : Hid ((typZ (ps.map (·.1)) name).length ≤ 1048576) := by have h1 := typZ_len (ps.map (·.1)) name; rw [List.length_map] at h1; exact Nat.le_trans h1 hl
  have HSm := Nm.hide (fun (x : ByteArray) (hx : x.size ≤ 1048576) W => specSameName_any x name W (by unfold maxLen; omega) (by unfold maxLen; omega))
  have HCS : Hid ((cutZ (ps.map (·.1)) o name).size ≤ 1048576) := by
    show _ ≤ _
    rcases cutZ_cases o name (fun s hs => cand_ne hs) (ps.map (·.1)) with ⟨z1, -⟩ | ⟨z, hz, z1, -⟩
    · rw [z1]; decide
    · obtain ⟨p, hp, rfl⟩ := List.mem_map.1 hz
      rw [z1]; exact hf p hp
  obtain ⟨R, hR⟩ : ∃ R, R = ndZ ps o name := ⟨_, rfl⟩
  rw [← hR]
  rw [ndZ, hn] at hR
  have hu0 := HU.out
  have rz := fun i => blk_cell kZ i
  have rn := fun i => blk_cell sN.k i
  have fn := fun i => blk_frozen sN.k i
  clear h hf k1 kN b0 b1
  cases hub : isUnderS name o with
  | false =>
    rw [hub] at hR hu0
    have hR0 : R = ⟨0, ⟨#[]⟩, ⟨#[]⟩, []⟩ := hR
    subst hR0
    clear hub hR HA HT HX HY HSm HCS hex
    go_enter Tryz.func47, Tryz.ntmps47
    go_wp2_with fail
    refine (hu0 _).mono ?_
    rintro e w1 ⟨rfl, b1⟩
    have s0 := sN.below b1
    have rp := fun i => blk_cell s0.k i
    have fz := fun i => blk_frozen s0.z i
    have rzz := fun i => blk_cell s0.z i
    obtain ⟨k4, hP⟩ := s0.done
    have rk := fun i => blk_cell k4 i
    have HP := Nm.hide hP
    clear s0 k4 hP sN kZ rz rn fn
    go_wp2_with fail
    refine bodyPost_ret (v := .agg #[.int .i64 0, .string ⟨#[]⟩, .string ⟨#[]⟩, .slice none 0 0]) ?_ rfl HP.out
    simp [results, Tryz.f47, go_sem, rk]
  | true =>
    rw [hub] at hR hu0
    simp only [if_true, Option.getD_some] at hR
    have HR := Nm.hide hR
    have HEX := Nm.hide (hex hub)
    clear hub hR hex
    go_enter Tryz.func47, Tryz.ntmps47
    go_wp2_with fail
    refine (hu0 _).mono ?_
    rintro e w1 ⟨rfl, b1⟩
    have s1 := sN.below b1
    have kZ1 := blk_below kZ b1
    clear sN kZ rz rn fn hu0 b1
    go_wp2
    go_loopw [6] (fun i wr => ∃ (k : Nat) (cb : ByteArray), i = .int .i64 k ∧ NdS w wr (w.heap.size + 1) (w.heap.size + 1 + 1) (.int .i64 0) (.string cb) (.string ⟨#[]⟩) (.slice none 0 0) [] ∧ Blk wr w.heap.size #[.string o, .slice va ps.length vc] 29 ∧ ((cb = ⟨#[]⟩ ∧ k ≤ lab.length ∧ Hid (cloZ (thZ ps o) (lab.drop k) = cloZ (thZ ps o) lab ∧ ∃ j, j ≤ (lab.drop k).length ∧ thZ ps o (joB ((lab.drop k).drop j)) = true)) ∨ cb = joB (cloZ (thZ ps o) lab))) (fun i _ => lab.length + 1 - (intOf i).toNat)
    case atStart => exact ⟨0, ⟨#[]⟩, rfl, s1, kZ1, .inl ⟨rfl, Nat.zero_le _, rfl, HEX.out⟩⟩
    case round =>
      clear s1 kZ1 HEX
      obtain ⟨k, cb, rfl, sk, kz, hst⟩ := hrel
      have rn := fun i => blk_cell sk.k i
      have fn := fun i => blk_frozen sk.k i
      have rz := fun i => blk_cell kz i
      rcases hst with ⟨rfl, hk, HJ⟩ | rfl
      · have ha := HA.out k hk wr
        have HT := Nm.hide (HT.out k)
        have HTS : Hid (thZ ps o (joB (lab.drop k)) = true → joB (lab.drop k) = joB (cloZ (thZ ps o) lab)) := fun h => by rw [← HJ.out.1, cloZ_stop h]
        have HTG : Hid (thZ ps o (joB (lab.drop k)) = false → k + 1 ≤ lab.length ∧ (cloZ (thZ ps o) (lab.drop (k + 1)) = cloZ (thZ ps o) lab ∧ ∃ j, j ≤ (lab.drop (k + 1)).length ∧ thZ ps o (joB ((lab.drop (k + 1)).drop j)) = true)) := fun h => by
          obtain ⟨g1, g2, g3⟩ := cloZ_go h HJ.out.2
          rw [List.length_drop] at g1
          rw [List.drop_drop] at g2 g3
          exact ⟨by omega, by rw [← g2]; exact HJ.out.1, g3⟩
        clear HJ
        generalize joB (lab.drop k) = JB at *
        go_wp2_with fail
        refine ha.mono ?_
        rintro e w2 ⟨rfl, b2⟩
        have s2 := sk.below b2
        have kz2 := blk_below kz b2
        have rz2 := fun i => blk_cell kz2 i
        have ht := HT.out _ s2.be
        clear sk kz rn fn rz b2 ha HT
        cases hth : thZ ps o JB with
        | true =>
          rw [hth] at ht
          have HJ := Nm.hide (HTS.out hth)
          clear hth HTS HTG
          go_wp2_with fail
          refine ht.mono ?_
          rintro e w3 ⟨rfl, b3⟩
          have s3 := s2.below b3
          have s4 := s3.set1 (y := .string JB)
          have fn := fun i => blk_frozen s3.k i
          have rn := fun i => blk_cell s3.k i
          have kz4 := blk_far (i := 1) (v := .string JB) (blk_below kz2 b3) (c := w.heap.size + 1 + 1) (by omega)
          clear s2 s3 kz2 rz2 b3 ht
          go_wp2
          go_roundw
          case rel => exact ⟨k + 1, JB, by go_num, s4, kz4, .inr HJ.out⟩
          case measure => simp [intOf]; omega
        | false =>
          rw [hth] at ht
          have HJ := Nm.hide (HTG.out hth)
          clear hth HTS HTG
          go_wp2_with (go_at_call 82; refine ht.mono ?_; rintro e w3 ⟨rfl, b3⟩)
          go_roundw
          case rel => exact ⟨k + 1, ⟨#[]⟩, by go_num, s2.below b3, blk_below kz2 b3, .inl ⟨rfl, HJ.out.1, HJ.out.2⟩⟩
          case measure => simp [intOf]; omega
      · have hne := jo_ne (cloZ (thZ ps o) lab)
        generalize joB (cloZ (thZ ps o) lab) = CB at *
        obtain ⟨m1, m2⟩ := not_empty (s := CB) (ba_pos hne)
        have hx := HX.out _ sk.be
        have hHR := HR.out
        clear HA HT hne HU HX
        generalize cutZ (ps.map (·.1)) o name = CX at *
        go_wp2_with fail
        refine hx.mono ?_
        rintro e w2 ⟨rfl, b2⟩
        have s2 := sk.below b2
        have s3 := s2.set2 (y := .string CX)
        have fn2 := fun i => blk_frozen s2.k i
        have rn2 := fun i => blk_cell s2.k i
        have kz3 := blk_far (i := 2) (v := .string CX) (blk_below kz b2) (c := w.heap.size + 1 + 1) (by omega)
        have rz3 := fun i => blk_cell kz3 i
        have hy := HY.out _ s3.be
        clear sk s2 kz rn fn rz b2 hx HY kz3
        go_wp2_with fail
        refine hy.mono ?_
        rintro e w4 ⟨u, rfl, hou, b4⟩
        have s4 := s3.below b4
        have s0 := s3.set3 b4 hou
        obtain ⟨ua, uc, eu⟩ := own_sl hou
        subst eu
        have fn4 := fun i => blk_frozen s4.k i
        have rn4 := fun i => blk_cell s4.k i
        clear s3 s4 hou b4 hy fn2 rn2 rz3
        have hTL := HTL.out
        generalize typZ (ps.map (·.1)) name = TL at *
        rw [kdZ] at hHR
        by_cases hcx : CX = ⟨#[]⟩
        · rw [if_neg (by simpa using hcx)] at hHR
          subst hcx
          have rn0 := fun i => blk_cell s0.k i
          by_cases hty : 0 < TL.length
          · rw [if_pos hty] at hHR
            have i1 : (0 : Int) < (TL.length : Int) := by omega
            have sF := (NdS.set0 (y := .int .i64 3) s0)
            have fp := fun i => blk_frozen s0.k i
            have rq := fun i => blk_cell sF.k i
            have fz := fun i => blk_frozen sF.z i
            have rzz := fun i => blk_cell sF.z i
            obtain ⟨k4, hP⟩ := sF.done
            have rk := fun i => blk_cell k4 i
            rw [← hHR] at hP
            have HP := Nm.hide hP
            clear s0 sF k4 hP
            go_wp2_with fail
            first | refine bodyPost_ret (v := .agg #[.int .i64 3, .string CB, .string ⟨#[]⟩, (.slice ua TL.length uc)]) ?_ rfl HP.out | done
            simp [results, Tryz.f47, go_sem, rk]
          · rw [if_neg hty] at hHR
            obtain rfl : TL = [] := List.length_eq_zero_iff.1 (by omega)
            simp only [List.length_nil] at s0 fn4 rn4 rn0 ⊢
            have e0 := ba_eq CB name
            by_cases hcn : CB = name
            · rw [if_pos hcn] at hHR
              rw [decide_eq_true hcn] at e0
              clear hcn
              have sF := (NdS.set0 (y := .int .i64 2) s0)
              have fp := fun i => blk_frozen s0.k i
              have rq := fun i => blk_cell sF.k i
              have fz := fun i => blk_frozen sF.z i
              have rzz := fun i => blk_cell sF.z i
              obtain ⟨k4, hP⟩ := sF.done
              have rk := fun i => blk_cell k4 i
              rw [← hHR] at hP
              have HP := Nm.hide hP
              clear s0 sF k4 hP
              go_wp2_with fail
              first | refine bodyPost_ret (v := .agg #[.int .i64 2, .string CB, .string ⟨#[]⟩, (.slice ua 0 uc)]) ?_ rfl HP.out | done
              simp [results, Tryz.f47, go_sem, rk]
            · rw [if_neg hcn] at hHR
              rw [decide_eq_false hcn] at e0
              clear hcn
              have sF := (NdS.set0 (y := .int .i64 1) s0)
              have fp := fun i => blk_frozen s0.k i
              have rq := fun i => blk_cell sF.k i
              have fz := fun i => blk_frozen sF.z i
              have rzz := fun i => blk_cell sF.z i
              obtain ⟨k4, hP⟩ := sF.done
              have rk := fun i => blk_cell k4 i
              rw [← hHR] at hP
              have HP := Nm.hide hP
              clear s0 sF k4 hP
              go_wp2_with fail
              first | refine bodyPost_ret (v := .agg #[.int .i64 1, .string CB, .string ⟨#[]⟩, (.slice ua 0 uc)]) ?_ rfl HP.out | done
              simp [results, Tryz.f47, go_sem, rk]
        · rw [if_pos hcx] at hHR
          obtain ⟨m3, m4⟩ := not_empty (s := CX) (ba_pos hcx)
          have hsm := HSm.out CX HCS.out
          have rn0 := fun i => blk_cell s0.k i
          have s9 := s0
          clear s0 hcx
          cases hsb : sameS CX name with
          | true =>
            rw [hsb] at hsm
            rw [if_pos hsb] at hHR
            clear hsb
            go_wp2_with fail
            refine (hsm _).mono ?_
            rintro e w5 ⟨rfl, b5⟩
            have s0 := s9.below b5
            clear s9 b5 fn4 rn4 rn0
            have rn0 := fun i => blk_cell s0.k i
            have sF := (NdS.set0 (y := .int .i64 4) s0)
            have fp := fun i => blk_frozen s0.k i
            have rq := fun i => blk_cell sF.k i
            have fz := fun i => blk_frozen sF.z i
            have rzz := fun i => blk_cell sF.z i
            obtain ⟨k4, hP⟩ := sF.done
            have rk := fun i => blk_cell k4 i
            rw [← hHR] at hP
            have HP := Nm.hide hP
            clear s0 sF k4 hP
            go_wp2_with fail
            first | refine bodyPost_ret (v := .agg #[.int .i64 4, .string CB, .string CX, (.slice ua TL.length uc)]) ?_ rfl HP.out | done
            simp [results, Tryz.f47, go_sem, rk]
          | false =>
            rw [hsb] at hsm
            rw [if_neg (by rw [hsb]; decide)] at hHR
            clear hsb
            go_wp2_with fail
            refine (hsm _).mono ?_
            rintro e w5 ⟨rfl, b5⟩
            have s0 := s9.below b5
            clear s9 b5 fn4 rn4 rn0
            have rn0 := fun i => blk_cell s0.k i
            have sF := (NdS.set0 (y := .int .i64 5) s0)
            have fp := fun i => blk_frozen s0.k i
            have rq := fun i => blk_cell sF.k i
            have fz := fun i => blk_frozen sF.z i
            have rzz := fun i => blk_cell sF.z i
            obtain ⟨k4, hP⟩ := sF.done
            have rk := fun i => blk_cell k4 i
            rw [← hHR] at hP
            have HP := Nm.hide hP
            clear s0 sF k4 hP
            go_wp2_with fail
            first | refine bodyPost_ret (v := .agg #[.int .i64 5, .string CB, .string CX, (.slice ua TL.length uc)]) ?_ rfl HP.out | done
            simp [results, Tryz.f47, go_sem, rk]
set_option maxRecDepth 100000 in
set_option maxHeartbeats 3200000 in
theorem treeNode_any (bb oo th : Nat) (rv : Value) (os : List GOw) (B : Nat) (na : Option Addr) (nc : Nat) (lab : List ByteArray) (aa : Option Addr) (ac : Nat) (al : List ByteArray) (w : World) (h : TrAt w B th rv os) (hl : os.length ≤ 500000) (hd : TrS os) (hLab : LabAt w (fpT th rv os) os) (hn : Nm.SRow w (.slice na lab.length nc) lab) (hgl : Gl lab) (hc : w.cell? ⟨bb, oo + 1, none⟩ = some (ptr th)) (hca : w.cell? ⟨bb, oo, none⟩ = some (.slice aa al.length ac)) (ha : Nm.SRow w (.slice aa al.length ac) al) (hal : al.length ≤ 1000) (hbb : bb < w.heap.size) (hex : underB lab al = true → ∃ j, j ≤ lab.length ∧ thT (lab.drop j) os = true) :
    Calls Tryz.prog 48 #[.pointer (some ⟨bb, oo, none⟩), .slice na lab.length nc] w (NdV (ndT os al lab) w) := by
  have hll : lab.length ≤ 254 := Nat.le_trans (Nm.length_le_wsum lab) hgl.2
  have b0 := (Below.refl w.heap.size w).alloc (Nat.le_refl _) (.cells #[.int .i64 0, .string ⟨#[]⟩, .string ⟨#[]⟩, .slice none 0 0] 48)
  have k0 := blk_new w #[.int .i64 0, .string ⟨#[]⟩, .string ⟨#[]⟩, .slice none 0 0] 48
  have HTr : Hid (∀ W, Below w.heap.size w W → TrAt W B th rv os ∧ LabAt W (fpT th rv os) os) := fun W hW => ⟨h.below hW, fun o ho => (hLab o ho).outs (Outs.below hW) (fun b hb => .inl hb)⟩
  have HC : Hid (∀ W, Below w.heap.size w W → W.cell? ⟨bb, oo, none⟩ = some (.slice aa al.length ac) ∧ W.cell? ⟨bb, oo + 1, none⟩ = some (ptr th)) := fun W hW => ⟨by rw [← hca]; exact hW.cell (p := ⟨bb, oo, none⟩) hbb, by rw [← hc]; exact hW.cell (p := ⟨bb, oo + 1, none⟩) hbb⟩
  have HU : Hid (∀ W, Below w.heap.size w W → Calls Tryz.prog 79 #[.slice na lab.length nc, .slice aa al.length ac] W fun e w' => e = .returned (.bool (underB lab al)) ∧ Below W.heap.size W w') := fun W hW => (under_any _ _ lab al W (hn.below hW) (ha.below hW) (fun x hx => by have := (hgl.1 x hx).2; omega) (by omega) (by omega)).mono (by rintro e w' ⟨he, m, rfl⟩; exact ⟨he, Go.below_drewN (Below.refl _ _) _⟩)
  have HL : Hid (underB lab al = true → ∀ W, Below w.heap.size w W → Calls Tryz.prog 85 #[.pointer (some ⟨bb, oo, none⟩), .slice na lab.length nc] W fun e w' => ∃ v, e = .returned v ∧ Nm.SRow w' v (cloT os lab) ∧ Below W.heap.size W w') := fun hu W hW => treeClosest_any bb oo th rv os B _ lab W (HTr.out W hW).1 hl hd (HTr.out W hW).2 (hn.below hW) (by omega) (HC.out W hW).2 (by have := hW.size; omega) (hex hu)
  obtain ⟨kc, hkc, ekc⟩ := clo_drop os lab
  have hgc : Gl (cloT os lab) := by rw [ekc]; exact hgl.drop kc
  have HW : Hid (∀ v W, Nm.SRow W v (cloT os lab) → Calls Tryz.prog 80 #[v] W fun e w' => e = .returned (.tuple #[.string (joB (cloT os lab)), .int .i64 0]) ∧ Below W.heap.size W w') := fun v W hv => by
    have := wire_any v (cloT os lab) W hv (by have := hgc.2; omega)
    rwa [wireS_short hgc.2, wireC_short hgc.2] at this
  have HG : Hid (∀ W, Below w.heap.size w W → Calls Tryz.prog 72 #[ptr th, .slice na lab.length nc] W fun e w' => Below W.heap.size W w' ∧ ((isIn (oCmp lab) os = true ∧ ∃ o, os[posOf (oCmp lab) os]? = some o ∧ Nm.cmpLs o.lab lab = 0 ∧ e = .returned (.tuple #[ptr o.blk, .bool true])) ∨ (isIn (oCmp lab) os = false ∧ e = .returned (.tuple #[.pointer none, .bool false])))) := fun W hW => getOwner_any th rv os B _ lab W (HTr.out W hW).1 hl hd.1 (HTr.out W hW).2 (hn.below hW) (by omega)
  have HK : Hid (∀ q ∈ os, ∀ W, Below w.heap.size w W → W.cell? ⟨q.blk, 2, none⟩ = some (ptr q.hd) ∧ Calls Tryz.prog 86 #[.pointer (some ⟨q.hd, 0, none⟩)] W fun e W' => ∃ v, e = .returned v ∧ W'.ownsRow W.heap.size 2 1 v (q.ss.map (·.ty)).length (intCells (q.ss.map (·.ty))) ∧ Below W.heap.size W W') := fun q hq W hW => by
    have ho := (HTr.out W hW).1.owners q hq
    refine ⟨(blk_cell ho.node 2).trans rfl, ?_⟩
    have hrow := ho.rows
    rw [show (seRs q.ss).length = q.ss.length by simp [seRs]] at hrow
    refine (keysOf_any q.hd q.rv q.ss (by have := (hd.2 q hq).2.1; omega) W (blk_lt ho.head) ((blk_cell ho.head 1).trans rfl) (rwsI_own _ _ q.ss hrow)).mono ?_
    rintro e W' ⟨v, rfl, h1, h2⟩
    refine ⟨v, rfl, ?_, h2⟩
    rw [List.length_map, intCells, List.map_map]
    exact h1
  have HX : Hid (underB lab al = true → ∀ W, Below w.heap.size w W → Calls Tryz.prog 87 #[.pointer (some ⟨bb, oo, none⟩), .slice na lab.length nc] W fun e w' => e = .returned (cutV (cutT os lab (lab.length - al.length))) ∧ Below W.heap.size W w') := fun hu W hW => treeCut_any bb oo th rv os B na nc lab aa al.length ac W (HTr.out W hW).1 hl hd (HTr.out W hW).2 (hn.below hW) (by omega) (HC.out W hW).2 (HC.out W hW).1 (by have := hW.size; omega) (under_iff.1 hu).1
  have HM : Hid (∀ q, cutT os lab (lab.length - al.length) = some q → ∀ W, Below w.heap.size w W → W.cell? ⟨q.blk, 0, none⟩ = some (.string q.nm) ∧ ∃ a c, W.cell? ⟨q.blk, 1, none⟩ = some (.slice a q.lab.length c)) := fun q hq W hW => by
    have hqm : q ∈ os := by
      rcases cut_some (lab := lab) ⟨hd.1, fun q hq => (hd.2 q hq).1⟩ (lab.length - al.length) with ⟨c1, -⟩ | ⟨m, r, -, c2, c3, -⟩
      · rw [c1] at hq; cases hq
      · rw [c2] at hq; rw [← Option.some.inj hq]; exact c3
    have ho := (HTr.out W hW).1.owners q hqm
    obtain ⟨a, c, e, -⟩ := ((HTr.out W hW).2 q hqm).row
    exact ⟨(blk_cell ho.node 0).trans rfl, a, c, by rw [← e]; exact (blk_cell ho.node 1).trans rfl⟩
  have HTY : Hid (∀ q, isIn (oCmp lab) os = true → os[posOf (oCmp lab) os]? = some q → tyT os lab = q.ss.map (·.ty)) := fun q h1 h2 => by rw [tyT, if_pos h1, h2]
  have HTN : Hid (isIn (oCmp lab) os = false → tyT os lab = []) := fun h1 => by rw [tyT, if_neg (by rw [h1]; decide)]
  obtain ⟨R, hR⟩ : ∃ R, R = ndT os al lab := ⟨_, rfl⟩
  rw [← hR]
  rw [ndT] at hR
  unfold ptr at HC HG HK HTr
  have hu0 := HU.out _ b0
  obtain ⟨c0, c1⟩ := HC.out _ b0
  clear h hd hLab hn hc hca ha hex HTr HU ekc
  cases hub : underB lab al with
  | false =>
    rw [hub] at hR hu0
    have hR0 : R = ⟨0, ⟨#[]⟩, ⟨#[]⟩, []⟩ := hR
    subst hR0
    clear hub hR HL HX HG HK HM HTY HTN HW
    go_enter Tryz.func48, Tryz.ntmps48
    go_wp2_with fail
    refine hu0.mono ?_
    rintro e w1 ⟨rfl, b1⟩
    have k1 := blk_below k0 b1
    have rz := fun i => blk_cell k1 i
    have fz := fun i => blk_frozen k1 i
    obtain ⟨k4, ho4, bw4⟩ := node_store (kd := 0) (x := ⟨#[]⟩) (y := ⟨#[]⟩) k1 (World.ownsRow_nil w1 w.heap.size 2 1) (by simp [Value.ownBlock]) (Nm.below_two b0 b1) (Nat.le_refl _)
    have rk := fun i => blk_cell k4 i
    have HP : Hid (NdV ⟨0, ⟨#[]⟩, ⟨#[]⟩, []⟩ w (.returned (.agg #[.int .i64 0, .string ⟨#[]⟩, .string ⟨#[]⟩, .slice none 0 0])) _) := ⟨_, rfl, ho4, bw4⟩
    clear k0 k1 k4 ho4 bw4 hu0 c0 c1
    go_wp2_with fail
    refine bodyPost_ret (v := .agg #[.int .i64 0, .string ⟨#[]⟩, .string ⟨#[]⟩, .slice none 0 0]) ?_ rfl HP.out
    simp [results, Tryz.f48, go_sem, rk]
  | true =>
    rw [hub] at hR hu0
    have HL := Nm.hide (HL.out hub)
    have HX := Nm.hide (HX.out hub)
    simp only [if_true] at hR
    have HR := Nm.hide hR
    clear hub hR
    generalize cutT os lab (lab.length - al.length) = CT at *
    have hCL : (cloT os lab).length ≤ 254 := Nat.le_trans (Nm.length_le_wsum _) hgc.2
    clear hgc
    go_enter Tryz.func48, Tryz.ntmps48
    go_wp2_with fail
    refine hu0.mono ?_
    rintro e w1 ⟨rfl, b1⟩
    have bw1 := Nm.below_two b0 b1
    have k1 := blk_below k0 b1
    clear hu0 c0 c1 k0 b1 b0
    go_wp2_with fail
    refine (HL.out _ bw1).mono ?_
    rintro e w2 ⟨v2, rfl, hv2, b2⟩
    have bw2 := Nm.below_two bw1 b2
    have k2 := blk_below k1 b2
    obtain ⟨va, vc, ev⟩ : ∃ va vc, v2 = .slice va (cloT os lab).length vc := by obtain ⟨a, c, e, _⟩ := hv2; exact ⟨a, c, e⟩
    subst ev
    have hwi := HW.out _ (w2.alloc (.cells #[.int .i64 0, .string ⟨#[]⟩, .string ⟨#[]⟩, .slice none 0 0] 48)) (hv2.below ((Below.refl w2.heap.size w2).alloc (Nat.le_refl _) _))
    clear hv2 k1 bw1 b2 HW HL
    generalize joB (cloT os lab) = CB at *
    go_wp2_with fail
    refine hwi.mono ?_
    rintro e w3 ⟨rfl, b3⟩
    have s2 := NdS.start k2 (Nat.le_refl _) bw2 b3
    have s3 := NdS.set1 (y := .string CB) s2
    have rp := fun i => blk_cell s2.k i
    have fp := fun i => blk_frozen s2.k i
    obtain ⟨c0, c1⟩ := HC.out _ s3.be
    have hg := HG.out _ s3.be
    generalize w2.heap.size = p at *
    clear k2 bw2 b3 s2 hwi c0 HG HC
    go_wp2_with fail
    refine hg.mono ?_
    rintro e w4 ⟨b4, ⟨hin, q, hq, hcm, rfl⟩ | ⟨hin, rfl⟩⟩
    · have s4 := s3.below b4
      have HT := Nm.hide (HTY.out q hin hq)
      obtain ⟨d2, hk⟩ := HK.out q (List.mem_of_getElem? hq) w4 s4.be
      have HI := Nm.hide hin
      clear s3 b4 hg rp fp c1 hin hq hcm HK HTY HTN
      go_wp2_with fail
      refine hk.mono ?_
      rintro e w5 ⟨u, rfl, hou, b5⟩
      have s5 := s4.set3 b5 hou
      obtain ⟨ua, uc, eu⟩ := own_sl hou
      subst eu
      have kp := (s4.below b5).k
      have rp := fun i => blk_cell kp i
      have fp := fun i => blk_frozen kp i
      have hx := HX.out _ s5.be
      clear s4 b5 hk hou kp d2 HX
      rw [List.length_map] at *
      go_wp2_with fail
      refine hx.mono ?_
      rintro e w6 ⟨rfl, b6⟩
      have s0 := s5.below b6
      clear s5 b6 hx rp fp
      cases CT with
      | none =>
        have hN : R = ⟨3, CB, ⟨#[]⟩, q.ss.map (·.ty)⟩ := by rw [HR.out, kdT, cutN, HI.out, HT.out]; rfl
        clear HR HI HM
        simp only [cutV]
        have sF := (NdS.set0 (y := .int .i64 3) s0)
        have rp := fun i => blk_cell s0.k i
        have fp := fun i => blk_frozen s0.k i
        have rq := fun i => blk_cell sF.k i
        have fz := fun i => blk_frozen sF.z i
        have rzz := fun i => blk_cell sF.z i
        obtain ⟨k4, hP⟩ := sF.done
        have rk := fun i => blk_cell k4 i
        rw [← hN] at hP
        have HP := Nm.hide hP
        clear s0 sF k4 hP
        go_wp2_with fail
        first | refine bodyPost_ret (v := .agg #[.int .i64 3, .string CB, .string ⟨#[]⟩, (.slice ua q.ss.length uc)]) ?_ rfl HP.out | done
        simp [results, Tryz.f48, go_sem, rk]
      | some c =>
        have hNN : R = ⟨if c.lab.length = lab.length then 4 else 5, CB, c.nm, (q.ss.map (·.ty))⟩ := by (rw [HR.out, HT.out]; rfl)
        have s6 := s0
        obtain ⟨d0, -⟩ := HM.out c rfl _ s6.be
        have rp6 := fun i => blk_cell s6.k i
        have fp6 := fun i => blk_frozen s6.k i
        clear s0
        have s0 := NdS.set2 (y := .string c.nm) s6
        obtain ⟨-, ca, cc, d1⟩ := HM.out c rfl _ s0.be
        clear HR HI HM s6
        simp only [cutV]
        unfold ptr
        generalize c.lab.length = CN at *
        by_cases hcn : CN = lab.length
        · subst hcn
          simp only [if_true] at hNN
          have sF := (NdS.set0 (y := .int .i64 4) s0)
          have rp := fun i => blk_cell s0.k i
          have fp := fun i => blk_frozen s0.k i
          have rq := fun i => blk_cell sF.k i
          have fz := fun i => blk_frozen sF.z i
          have rzz := fun i => blk_cell sF.z i
          obtain ⟨k4, hP⟩ := sF.done
          have rk := fun i => blk_cell k4 i
          rw [← hNN] at hP
          have HP := Nm.hide hP
          clear s0 sF k4 hP
          go_wp2_with fail
          first | refine bodyPost_ret (v := .agg #[.int .i64 4, .string CB, .string (c.nm), (.slice ua q.ss.length uc)]) ?_ rfl HP.out | done
          simp [results, Tryz.f48, go_sem, rk]
        · rw [if_neg hcn] at hNN
          have i1 : ((CN : Int) == (lab.length : Int)) = false := by simpa using fun e => hcn (by omega)
          have i2 : ¬ (CN : Int) = (lab.length : Int) := fun e => hcn (by omega)
          have sF := (NdS.set0 (y := .int .i64 5) s0)
          have rp := fun i => blk_cell s0.k i
          have fp := fun i => blk_frozen s0.k i
          have rq := fun i => blk_cell sF.k i
          have fz := fun i => blk_frozen sF.z i
          have rzz := fun i => blk_cell sF.z i
          obtain ⟨k4, hP⟩ := sF.done
          have rk := fun i => blk_cell k4 i
          rw [← hNN] at hP
          have HP := Nm.hide hP
          clear s0 sF k4 hP
          go_wp2_with fail
          first | refine bodyPost_ret (v := .agg #[.int .i64 5, .string CB, .string (c.nm), (.slice ua q.ss.length uc)]) ?_ rfl HP.out | done
          simp [results, Tryz.f48, go_sem, rk]
    · have s4 := s3.below b4
      have HI := Nm.hide hin
      have HT := Nm.hide (HTN.out hin)
      have hx := HX.out _ s4.be
      clear s3 b4 hg rp fp c1 hin HK HTY HTN HX
      go_wp2_with fail
      refine hx.mono ?_
      rintro e w6 ⟨rfl, b6⟩
      have s0 := s4.below b6
      clear s4 b6 hx
      cases CT with
      | none =>
        simp only [cutV]
        have hNN : R = ⟨if (cloT os lab).length = lab.length then 2 else 1, CB, ⟨#[]⟩, []⟩ := by rw [HR.out, kdT, cutN, HI.out, HT.out]; rfl
        clear HR HI HM
        generalize (cloT os lab).length = CL at *
        by_cases hcl : CL = lab.length
        · subst hcl
          simp only [if_true] at hNN
          have sF := (NdS.set0 (y := .int .i64 2) s0)
          have rp := fun i => blk_cell s0.k i
          have fp := fun i => blk_frozen s0.k i
          have rq := fun i => blk_cell sF.k i
          have fz := fun i => blk_frozen sF.z i
          have rzz := fun i => blk_cell sF.z i
          obtain ⟨k4, hP⟩ := sF.done
          have rk := fun i => blk_cell k4 i
          rw [← hNN] at hP
          have HP := Nm.hide hP
          clear s0 sF k4 hP
          go_wp2_with fail
          first | refine bodyPost_ret (v := .agg #[.int .i64 2, .string CB, .string ⟨#[]⟩, (.slice none 0 0)]) ?_ rfl HP.out | done
          simp [results, Tryz.f48, go_sem, rk]
        · rw [if_neg hcl] at hNN
          have i1 : ((CL : Int) == (lab.length : Int)) = false := by simpa using fun e => hcl (by omega)
          have i2 : ¬ (CL : Int) = (lab.length : Int) := fun e => hcl (by omega)
          have sF := (NdS.set0 (y := .int .i64 1) s0)
          have rp := fun i => blk_cell s0.k i
          have fp := fun i => blk_frozen s0.k i
          have rq := fun i => blk_cell sF.k i
          have fz := fun i => blk_frozen sF.z i
          have rzz := fun i => blk_cell sF.z i
          obtain ⟨k4, hP⟩ := sF.done
          have rk := fun i => blk_cell k4 i
          rw [← hNN] at hP
          have HP := Nm.hide hP
          clear s0 sF k4 hP
          go_wp2_with fail
          first | refine bodyPost_ret (v := .agg #[.int .i64 1, .string CB, .string ⟨#[]⟩, (.slice none 0 0)]) ?_ rfl HP.out | done
          simp [results, Tryz.f48, go_sem, rk]
      | some c =>
        have hNN : R = ⟨if c.lab.length = lab.length then 4 else 5, CB, c.nm, []⟩ := by (rw [HR.out, HT.out]; rfl)
        have s6 := s0
        obtain ⟨d0, -⟩ := HM.out c rfl _ s6.be
        have rp6 := fun i => blk_cell s6.k i
        have fp6 := fun i => blk_frozen s6.k i
        clear s0
        have s0 := NdS.set2 (y := .string c.nm) s6
        obtain ⟨-, ca, cc, d1⟩ := HM.out c rfl _ s0.be
        clear HR HI HM s6
        simp only [cutV]
        unfold ptr
        generalize c.lab.length = CN at *
        by_cases hcn : CN = lab.length
        · subst hcn
          simp only [if_true] at hNN
          have sF := (NdS.set0 (y := .int .i64 4) s0)
          have rp := fun i => blk_cell s0.k i
          have fp := fun i => blk_frozen s0.k i
          have rq := fun i => blk_cell sF.k i
          have fz := fun i => blk_frozen sF.z i
          have rzz := fun i => blk_cell sF.z i
          obtain ⟨k4, hP⟩ := sF.done
          have rk := fun i => blk_cell k4 i
          rw [← hNN] at hP
          have HP := Nm.hide hP
          clear s0 sF k4 hP
          go_wp2_with fail
          first | refine bodyPost_ret (v := .agg #[.int .i64 4, .string CB, .string (c.nm), (.slice none 0 0)]) ?_ rfl HP.out | done
          simp [results, Tryz.f48, go_sem, rk]
        · rw [if_neg hcn] at hNN
          have i1 : ((CN : Int) == (lab.length : Int)) = false := by simpa using fun e => hcn (by omega)
          have i2 : ¬ (CN : Int) = (lab.length : Int) := fun e => hcn (by omega)
          have sF := (NdS.set0 (y := .int .i64 5) s0)
          have rp := fun i => blk_cell s0.k i
          have fp := fun i => blk_frozen s0.k i
          have rq := fun i => blk_cell sF.k i
          have fz := fun i => blk_frozen sF.z i
          have rzz := fun i => blk_cell sF.z i
          obtain ⟨k4, hP⟩ := sF.done
          have rk := fun i => blk_cell k4 i
          rw [← hNN] at hP
          have HP := Nm.hide hP
          clear s0 sF k4 hP
          go_wp2_with fail
          first | refine bodyPost_ret (v := .agg #[.int .i64 5, .string CB, .string (c.nm), (.slice none 0 0)]) ?_ rfl HP.out | done
          simp [results, Tryz.f48, go_sem, rk]
/-- A node and a code that are handed back. -/
def NdP (r : Nd × Int) (w : World) (e : Ending) (w' : World) : Prop := ∃ u, e = .returned (.tuple #[.agg #[.int .i64 r.1.kd, .string r.1.clo, .string r.1.cut, u], .int .i64 r.2]) ∧ w'.ownsRow w.heap.size 2 1 u r.1.ty.length (intCells r.1.ty) ∧ Below w.heap.size w w'
theorem ndP_none {w w' : World} (h : Below w.heap.size w w') : NdP (nd0, 32) w (.returned (.tuple #[.agg #[.int .i64 0, .string ⟨#[]⟩, .string ⟨#[]⟩, .slice none 0 0], .int .i64 32])) w' :=
  ⟨_, rfl, World.ownsRow_nil _ _ _ _, h⟩
theorem nd_node {ps : List Zp} {o name : ByteArray} {bb : Nat} {lv : Value} {th : Nat} {ys : List ByteArray} {aa : Option Addr} {ac : Nat} {labv rv : Value} {os : List GOw} {kv : Value} {ks : List Ld} {B : Nat} {W : World} {lab : List ByteArray} (la : Option Addr) (lc : Nat) (hP : P3 (zoneRecs ps) o bb lv th ys aa ac labv rv os kv ks B W) (hz : zOK ps o = true) (hn : Nm.split name = some lab) (hrow : Nm.SRow W (.slice la lab.length lc) lab) :
    Calls Tryz.prog 48 #[.pointer (some ⟨bb, 3, none⟩), .slice la lab.length lc] W (NdV (ndZ ps o name) W) := by
  have hzs : ps.map (·.1) = zoneT os := by rw [← (zOK_recs hz).2, zone_eq hP.st.inv hP.good.1 hP.mix]
  have hT := tz_of hP.st.inv hP.good.1 hP.good.2 hP.ap hz hzs
  have hol := hP.st.inv.len.1
  have hl5 := hP.hl
  rw [List.length_map] at hol
  rw [← hT.nd hzs hn]
  exact treeNode_any bb 3 th rv os B la lc lab aa ac ys W hP.st.tr (by omega) (hP.st.inv.trs (by rw [List.length_map]; omega)) hP.st.lab hrow (gl_split hn) ((blk_cell hP.kb 4).trans rfl) ((blk_cell hP.kb 3).trans rfl) hP.av (by have := (gl_split hP.ap).2; have := Nm.length_le_wsum ys; omega) (blk_lt hP.kb) (fun hu => hT.hex hu)

set_option maxRecDepth 100000 in
set_option maxHeartbeats 1600000 in
theorem implFindNode_any (o name : ByteArray) (v : Value) (ps : List Zp) (w : World) (h : ZRow w v ps) (hs : zsum ps ≤ 1048576) (hf : ∀ p ∈ ps, p.1.own.size ≤ 1048576 ∧ ∀ x ∈ p.1.da, x.size ≤ 1048576) (ha : o.size ≤ 1000000000) (hn : name.size ≤ 1000000000) :
    Calls Tryz.prog 24 #[.agg #[.string o, v], .string name] w (NdP (ndR ps o name) w) := by
  obtain ⟨va, vc, rfl⟩ : ∃ va vc, v = .slice va ps.length vc := by obtain ⟨⟨_, a, c, e, _⟩, _⟩ := h; exact ⟨a, c, e⟩
  have b0 := (Below.refl w.heap.size w).alloc (Nat.le_refl _) (.cells #[.string o, .slice va ps.length vc] 29)
  have b1 := b0.alloc b0.size (.cells #[.int .i64 0, .string ⟨#[]⟩, .string ⟨#[]⟩, .slice none 0 0] 48)
  have k0 := blk_alloc (blk_new w #[.string o, .slice va ps.length vc] 29) (.cells #[.int .i64 0, .string ⟨#[]⟩, .string ⟨#[]⟩, .slice none 0 0] 48)
  have kS := blk_new (w.alloc (.cells #[.string o, .slice va ps.length vc] 29)) #[.int .i64 0, .string ⟨#[]⟩, .string ⟨#[]⟩, .slice none 0 0] 48
  rw [World.size_alloc] at kS
  have hop := openZone_any o (.slice va ps.length vc) ps _ (h.below b1) hs hf ha
  have hsp := fun W => splitName_any name W (by unfold maxLen; omega)
  have r0 := fun i => blk_cell k0 i
  obtain ⟨R, hR⟩ : ∃ R, R = ndR ps o name := ⟨_, rfl⟩
  have HR := Nm.hide hR
  rw [← hR]
  clear h hf hs hR
  go_enter Tryz.func24, Tryz.ntmps24
  go_wp2_with fail
  refine hop.mono ?_
  rintro e w1 ⟨hb1, ⟨hz, rfl⟩ | ⟨hz, bb, lv, th, ys, aa, ac, labv, rv, os, kv, ks, B, rfl, hP⟩⟩
  · have hR0 : R = (nd0, 32) := by rw [HR.out, ndR, if_neg (by rw [hz]; simp)]
    have bw1 := Nm.below_two b1 hb1
    have kS1 := blk_below kS hb1
    clear HR hz hop k0 kS b0 b1 hb1 r0
    subst hR0
    go_wp2_with fail
    refine (hsp _).mono ?_
    rintro e w2 ⟨lv, rfl, hov, b2⟩
    generalize (Nm.split name).isSome = SB at *
    generalize (Nm.split name).getD [] = SL at *
    obtain ⟨la, lc, rfl⟩ := own_sl hov
    have kS2 := blk_below kS1 b2
    have rz := fun i => blk_cell kS2 i
    have fz := fun i => blk_frozen kS2 i
    obtain ⟨k4, -, bw4⟩ := node_store (kd := 0) (x := ⟨#[]⟩) (y := ⟨#[]⟩) kS2 (World.ownsRow_nil w2 0 2 1) (by simp [Value.ownBlock]) (Nm.below_two bw1 b2) (Nat.le_succ _)
    have rk := fun i => blk_cell k4 i
    clear kS1 kS2 hov k4 hsp
    go_wp2_with fail
    refine bodyPost_ret (v := .tuple #[.agg #[.int .i64 0, .string ⟨#[]⟩, .string ⟨#[]⟩, .slice none 0 0], .int .i64 32]) ?_ rfl (ndP_none bw4)
    simp [results, Tryz.f24, go_sem, rk]
  · have bw1 := Nm.below_two b1 hb1
    have kS1 := blk_below kS hb1
    clear hop k0 kS b0 b1 hb1 r0
    go_wp2_with fail
    refine (hsp _).mono ?_
    rintro e w2 ⟨lv', rfl, hov, b2⟩
    have kS2 := blk_below kS1 b2
    have bw2 := Nm.below_two bw1 b2
    have hP2 := hP.below b2
    cases hsn : Nm.split name with
    | none =>
      rw [hsn] at hov
      have hR0 : R = (nd0, 32) := by rw [HR.out, ndR, if_neg (by rw [hsn]; simp)]
      clear HR hz hP hP2 hsp hsn bw1 kS1
      subst hR0
      obtain ⟨la, lc, rfl⟩ := own_sl hov
      simp only [Option.isSome_none, Option.getD_none, List.length_nil] at hov ⊢
      have rz := fun i => blk_cell kS2 i
      have fz := fun i => blk_frozen kS2 i
      obtain ⟨k4, -, bw4⟩ := node_store (kd := 0) (x := ⟨#[]⟩) (y := ⟨#[]⟩) kS2 (World.ownsRow_nil w2 0 2 1) (by simp [Value.ownBlock]) bw2 (Nat.le_succ _)
      have rk := fun i => blk_cell k4 i
      clear kS2 hov k4
      go_wp2_with fail
      refine bodyPost_ret (v := .tuple #[.agg #[.int .i64 0, .string ⟨#[]⟩, .string ⟨#[]⟩, .slice none 0 0], .int .i64 32]) ?_ rfl (ndP_none bw4)
      simp [results, Tryz.f24, go_sem, rk]
    | some lab =>
      have hR1 : R = (ndZ ps o name, 0) := by rw [HR.out, ndR, if_pos ⟨hz, by rw [hsn]; rfl⟩]
      rw [hsn] at hov
      simp only [Option.getD_some] at hov
      obtain ⟨la, lc, rfl⟩ := own_sl hov
      have hts := nd_node la lc hP2 hz hsn (Nm.SRow.of_owns hov)
      clear HR hz hP hP2 hsp hsn bw1 kS1 hov
      subst hR1
      generalize ndZ ps o name = N at *
      obtain ⟨kd, x, y, l⟩ := N
      simp only [Option.isSome_some]
      go_wp2_with fail
      refine hts.mono ?_
      rintro e w3 ⟨u, rfl, hou, b3⟩
      obtain ⟨ua, uc, eu⟩ := own_sl hou
      subst eu
      have kS3 := blk_below kS2 b3
      have rz := fun i => blk_cell kS3 i
      have fz := fun i => blk_frozen kS3 i
      obtain ⟨k4, ho4, bw4⟩ := node_store (kd := kd) (x := x) (y := y) kS3 hou (fun e => by have h1 := (hou.lt _ e).1; have h2 := blk_lt kS2; omega) (Nm.below_two bw2 b3) (Nat.le_succ _)
      have rk := fun i => blk_cell k4 i
      have HP : Hid (NdP (⟨kd, x, y, l⟩, 0) w (.returned (.tuple #[.agg #[.int .i64 kd, .string x, .string y, .slice ua l.length uc], .int .i64 0])) _) := ⟨_, rfl, own_base ho4 bw2.size, bw4⟩
      clear kS2 kS3 k4 ho4 bw4 hou hts
      simp only at *
      go_wp2_with fail
      refine bodyPost_ret (v := .tuple #[.agg #[.int .i64 kd, .string x, .string y, .slice ua l.length uc], .int .i64 0]) ?_ rfl HP.out
      simp [results, Tryz.f24, go_sem, rk]
theorem zOK_ap {ps : List Zp} {o : ByteArray} (hz : zOK ps o = true) : ∃ al, Nm.split o = some al := by
  have h0 := (zOK_recs hz).1
  cases hq : Nm.split o with
  | some al => exact ⟨al, rfl⟩
  | none => rw [bldE, if_pos (by rw [hq]; rfl)] at h0; exact absurd h0 (by decide)

set_option maxRecDepth 100000 in
set_option maxHeartbeats 1600000 in
theorem specFindNode_any (o name : ByteArray) (v : Value) (ps : List Zp) (w : World) (h : ZRow w v ps) (hs : zsum ps ≤ 1048576) (hl : ps.length ≤ 1048576) (hf : ∀ p ∈ ps, p.1.own.size ≤ 1048576 ∧ ∀ x ∈ p.1.da, x.size ≤ 1048576) (ha : o.size ≤ maxLen) (hn : name.size ≤ maxLen) :
    Calls Tryz.prog 23 #[.agg #[.string o, v], .string name] w (NdP (ndR ps o name) w) := by
  obtain ⟨va, vc, rfl⟩ : ∃ va vc, v = .slice va ps.length vc := by obtain ⟨⟨_, a, c, e, _⟩, _⟩ := h; exact ⟨a, c, e⟩
  have b0 := (Below.refl w.heap.size w).alloc (Nat.le_refl _) (.cells #[.string o, .slice va ps.length vc] 29)
  have b1 := b0.alloc b0.size (.cells #[.int .i64 0, .string ⟨#[]⟩, .string ⟨#[]⟩, .slice none 0 0] 48)
  have k0 := blk_alloc (blk_new w #[.string o, .slice va ps.length vc] 29) (.cells #[.int .i64 0, .string ⟨#[]⟩, .string ⟨#[]⟩, .slice none 0 0] 48)
  have kS := blk_new (w.alloc (.cells #[.string o, .slice va ps.length vc] 29)) #[.int .i64 0, .string ⟨#[]⟩, .string ⟨#[]⟩, .slice none 0 0] 48
  rw [World.size_alloc] at kS
  have hck := specCheckZone_any o (.slice va ps.length vc) ps _ (h.below b1) hs hl hf ha
  have HOK := Nm.hide (fun W => specNameOK_any name W hn)
  have HND : Hid (∀ lab, Nm.split name = some lab → zOK ps o = true → ∀ W, Below w.heap.size w W → Calls Tryz.prog 47 #[.agg #[.string o, .slice va ps.length vc], .string name] W (NdV (ndZ ps o name) W)) := fun lab hlab hz W hW => by
    obtain ⟨al, hal⟩ := zOK_ap hz
    exact l06Node_any o name lab _ ps W (h.below hW) hl (fun p hp => (hf p hp).1) hlab ha (fun hu => thz_ex hz hal hlab (by rw [← isUnder_some hlab hal]; exact hu))
  have r0 := fun i => blk_cell k0 i
  obtain ⟨R, hR⟩ : ∃ R, R = ndR ps o name := ⟨_, rfl⟩
  have HR := Nm.hide hR
  rw [← hR]
  clear h hf hs b0 hR
  cases hz : zOK ps o with
  | false =>
    rw [hz] at hck
    simp only [Bool.false_eq_true, if_false] at hck
    have hR0 : R = (nd0, 32) := by rw [HR.out, ndR, if_neg (by rw [hz]; simp)]
    subst hR0
    clear hz HND HR
    go_enter Tryz.func23, Tryz.ntmps23
    go_wp2_with fail
    refine hck.mono ?_
    rintro e w1 ⟨rfl, hb1⟩
    have kS1 := blk_below kS hb1
    have rz := fun i => blk_cell kS1 i
    have fz := fun i => blk_frozen kS1 i
    obtain ⟨k4, -, bw4⟩ := node_store (kd := 0) (x := ⟨#[]⟩) (y := ⟨#[]⟩) kS1 (World.ownsRow_nil w1 0 2 1) (by simp [Value.ownBlock]) (Nm.below_two b1 hb1) (Nat.le_succ _)
    have rk := fun i => blk_cell k4 i
    have HP := Nm.hide (ndP_none bw4)
    clear kS kS1 k0 r0 k4 bw4 hck
    go_wp2_with fail
    refine bodyPost_ret (v := .tuple #[.agg #[.int .i64 0, .string ⟨#[]⟩, .string ⟨#[]⟩, .slice none 0 0], .int .i64 32]) ?_ rfl HP.out
    simp [results, Tryz.f23, go_sem, rk]
  | true =>
    rw [hz] at hck
    simp only [if_true] at hck
    have HZ := Nm.hide hz
    have hok := HOK.out
    clear hz
    go_enter Tryz.func23, Tryz.ntmps23
    go_wp2_with fail
    refine hck.mono ?_
    rintro e w1 ⟨rfl, hb1⟩
    have bw1 := Nm.below_two b1 hb1
    have kS1 := blk_below kS hb1
    have k1 := blk_below k0 hb1
    clear hck kS k0 r0 b1 hb1
    cases hsn : Nm.split name with
    | none =>
      rw [hsn] at hok
      have hR0 : R = (nd0, 32) := by rw [HR.out, ndR, if_neg (by rw [hsn]; simp)]
      subst hR0
      simp only [Option.isSome_none] at hok
      clear hsn HND HR HZ
      go_wp2_with fail
      refine (hok _).mono ?_
      rintro e w2 ⟨rfl, b2⟩
      have kS2 := blk_below kS1 b2
      have rz := fun i => blk_cell kS2 i
      have fz := fun i => blk_frozen kS2 i
      obtain ⟨k4, -, bw4⟩ := node_store (kd := 0) (x := ⟨#[]⟩) (y := ⟨#[]⟩) kS2 (World.ownsRow_nil w2 0 2 1) (by simp [Value.ownBlock]) (Nm.below_two bw1 b2) (Nat.le_succ _)
      have rk := fun i => blk_cell k4 i
      have HP := Nm.hide (ndP_none bw4)
      clear kS1 kS2 k1 k4 bw4 hok
      go_wp2_with fail
      refine bodyPost_ret (v := .tuple #[.agg #[.int .i64 0, .string ⟨#[]⟩, .string ⟨#[]⟩, .slice none 0 0], .int .i64 32]) ?_ rfl HP.out
      simp [results, Tryz.f23, go_sem, rk]
    | some lab =>
      rw [hsn] at hok
      have hR1 : R = (ndZ ps o name, 0) := by rw [HR.out, ndR, if_pos ⟨HZ.out, by rw [hsn]; rfl⟩]
      have HN := Nm.hide (HND.out lab hsn HZ.out)
      simp only [Option.isSome_some] at hok
      subst hR1
      clear hsn HND HR HZ
      generalize ndZ ps o name = N at *
      obtain ⟨kd, x, y, l⟩ := N
      go_wp2_with fail
      refine (hok _).mono ?_
      rintro e w2 ⟨rfl, b2⟩
      have kS2 := blk_below kS1 b2
      have k2 := blk_below k1 b2
      have r2 := fun i => blk_cell k2 i
      have bw2 := Nm.below_two bw1 b2
      have hnd := HN.out _ bw2
      clear kS1 k1 bw1 b2 HN hok
      go_wp2_with fail
      refine hnd.mono ?_
      rintro e w3 ⟨u, rfl, hou, b3⟩
      obtain ⟨ua, uc, eu⟩ := own_sl hou
      subst eu
      have kS3 := blk_below kS2 b3
      have rz := fun i => blk_cell kS3 i
      have fz := fun i => blk_frozen kS3 i
      obtain ⟨k4, ho4, bw4⟩ := node_store (kd := kd) (x := x) (y := y) kS3 hou (fun e => by have h1 := (hou.lt _ e).1; have h2 := blk_lt kS2; omega) (Nm.below_two bw2 b3) (Nat.le_succ _)
      have rk := fun i => blk_cell k4 i
      have HP : Hid (NdP (⟨kd, x, y, l⟩, 0) w (.returned (.tuple #[.agg #[.int .i64 kd, .string x, .string y, .slice ua l.length uc], .int .i64 0])) _) := ⟨_, rfl, own_base ho4 bw2.size, bw4⟩
      clear kS2 kS3 k4 ho4 bw4 hou hnd k2 r2
      simp only at *
      go_wp2_with fail
      refine bodyPost_ret (v := .tuple #[.agg #[.int .i64 kd, .string x, .string y, .slice ua l.length uc], .int .i64 0]) ?_ rfl HP.out
      simp [results, Tryz.f23, go_sem, rk]
end Go.Proofs.YtnpegoclghfmpaaGreat
/- laws.eqInt64S by its contract. -/
namespace Go.Proofs.YtnpegoclghfmpaaGreat
open Go.RowKit

set_option maxRecDepth 100000 in
set_option maxHeartbeats 800000 in
theorem eqInt64S_any (v u : Value) (l : List Int) (w : World) (h : CRow w v l.length 1 (intCells l)) (h' : CRow w u l.length 1 (intCells l)) (hlen : l.length ≤ 1000000000) :
    Calls Tryz.prog 49 #[v, u] w fun e w' => e = .returned (.bool true) ∧ Below w.heap.size w w' := by
  obtain ⟨_, a, cap, rfl, hcap, hmx, hc⟩ := h
  obtain ⟨_, a', cap', rfl, hcap', hmx', hc'⟩ := h'
  have hne : ((l.length : Int) != (l.length : Int)) = false := by simp
  go_enter Tryz.func49, Tryz.ntmps49
  go_wp2
  go_loopw [5] (fun i wr => ∃ k : Nat, k ≤ l.length ∧ i = .int .i64 k ∧ Below w.heap.size w wr) (fun i _ => l.length - (intOf i).toNat)
  case atStart => exact ⟨0, Nat.zero_le _, rfl, Below.refl _ _⟩
  case round =>
    obtain ⟨k, hk, rfl, hbel⟩ := hrel
    by_cases hlt : k < l.length
    · obtain ⟨x, hx⟩ : ∃ x, l[k]? = some x := ⟨_, List.getElem?_eq_getElem hlt⟩
      have hx' : (intCells l)[k]? = some (.int .i64 x) := by simp [intCells, hx]
      obtain ⟨b, off, rfl, hcell⟩ := hc (by omega)
      obtain ⟨b', off', rfl, hcell'⟩ := hc' (by omega)
      have hcx : wr.cell? ⟨b, off + k, none⟩ = some (.int .i64 x) := (hbel.cell (World.block_lt_of_cell? w _ (hcell k _ hx'))).trans (hcell k _ hx')
      have hcx' : wr.cell? ⟨b', off' + k, none⟩ = some (.int .i64 x) := (hbel.cell (World.block_lt_of_cell? w _ (hcell' k _ hx'))).trans (hcell' k _ hx')
      have hxx : (x != x) = false := by simp
      clear hx hx' hcell hcell' hc hc'
      go_wp2
      go_region
      all_goals
        go_wp2
        go_roundw
        case rel => exact ⟨k + 1, by omega, by go_num, hbel.drew⟩
        case measure => simp [intOf]; omega
    · clear hc hc'
      go_wp2
      go_ret
      exact ⟨rfl, hbel⟩

end Go.Proofs.YtnpegoclghfmpaaGreat
/- laws.heldInt64S by its contract. -/
namespace Go.Proofs.YtnpegoclghfmpaaGreat
open Go.RowKit

set_option maxRecDepth 100000 in
set_option maxHeartbeats 800000 in
theorem heldInt64S_any (v : Value) (n k : Nat) (w : World) (h : CRow w v n 1 (ints k n)) (hn : n ≤ 1000000000) (hk : k ≤ 1000000) :
    Calls Tryz.prog 51 #[v, .int .i64 (k : Int)] w fun e w' => e = .returned (.int .i64 ((k + n : Nat) : Int)) ∧ w' = w := by
  obtain ⟨_, a, cap, rfl, hcap, hmx, hc⟩ := h
  go_enter Tryz.func51, Tryz.ntmps51
  go_wp2
  go_loop [1, 5] (fun t i => ∃ j : Nat, j ≤ n ∧ i = .int .i64 (j : Int) ∧ t = .int .i64 ((k + j : Nat) : Int))
    (fun _ i => n - (intOf i).toNat)
  case atStart => exact ⟨0, Nat.zero_le _, rfl, rfl⟩
  case round =>
    obtain ⟨j, hj, rfl, rfl⟩ := hrel
    by_cases hlt : j < n
    · obtain ⟨b, off, rfl, hcell⟩ := hc (by omega)
      have hcx := hcell j _ (ints_get hlt)
      have hne : (((k + j : Nat) : Int) != ((k + j : Nat) : Int)) = false := by simp
      have hne2 : ((k : Int) + (j : Int) != (k : Int) + (j : Int)) = false := by simp
      clear hc hcell
      go_wp2
      go_round
      case rel => exact ⟨j + 1, by omega, by go_num, by go_num⟩
      case measure => simp [intOf]; omega
    · have hje : j = n := by omega
      subst hje
      clear hc
      go_wp2
      go_ret
      exact ⟨rfl, rfl⟩
end Go.Proofs.YtnpegoclghfmpaaGreat
/- What grows in one block. -/
namespace Go.Proofs.YtnpegoclghfmpaaGreat
open Go.RowKit
set_option linter.unusedVariables false

theorem gr_trans {w w1 w2 : World} {row : Option Nat} (h1 : w.grownBy w1 row) (h2 : w1.grownBy w2 row) : w.grownBy w2 row :=
  ⟨h2.os.trans h1.os, h2.tape.trans h1.tape, h2.output.trans h1.output, Nat.le_trans h1.size h2.size, fun k hk hn => (h2.block k (Nat.lt_of_lt_of_le hk h1.size) hn).trans (h1.block k hk hn)⟩
theorem gr_set (W : World) (b i : Nat) (v : Value) : W.grownBy (W.setCell ⟨b, i, none⟩ v) (some b) :=
  ⟨rfl, rfl, rfl, by simp, fun k _ hk => heap_setCell_other W ⟨b, i, none⟩ k _ (fun e => hk (by rw [e]))⟩
theorem gr_refl (w : World) (row : Option Nat) : w.grownBy w row := ⟨rfl, rfl, rfl, Nat.le_refl _, fun _ _ _ => rfl⟩
set_option maxRecDepth 100000 in
set_option maxHeartbeats 800000 in
theorem markInt64S_own (v : Value) (n B k : Nat) (xs : List Value) (w : World) (hown : w.ownsRow B 2 1 v n xs) (hn : n ≤ 1000000) (hk : k ≤ 1000000) :
    Calls Tryz.prog 50 #[v, .int .i64 (k : Int)] w fun e w' => e = .returned (.int .i64 ((k + n : Nat) : Int)) ∧ w'.ownsRow B 2 1 v n (ints k n) ∧ w.grownBy w' v.ownBlock := by
  have hxl : xs.length = n := by have := hown.1; omega
  rcases Nat.eq_zero_or_pos n with h0 | hpos
  · subst h0
    obtain ⟨a, cap, rfl⟩ : ∃ a cap, v = .slice a 0 cap := by
      rcases hown.2 with ⟨rfl, _⟩ | ⟨g, cap, cur, rfl, _⟩
      · exact ⟨_, _, rfl⟩
      · exact ⟨_, _, rfl⟩
    have hx0 : xs = [] := List.length_eq_zero_iff.1 hxl
    subst hx0
    go_enter Tryz.func50, Tryz.ntmps50
    go_wp2
    go_loop [1, 5] (fun t i => t = .int .i64 (k : Int) ∧ i = .int .i64 0) (fun _ _ => 0)
    case atStart => exact ⟨rfl, rfl⟩
    case round =>
      obtain ⟨rfl, rfl⟩ := hrel
      go_wp2
      go_ret
      exact ⟨rfl, by simpa [ints] using hown, gr_refl _ _⟩
  · obtain ⟨g, cap, rfl, hBg⟩ : ∃ g cap, v = .slice (some ⟨g, 0, none⟩) n cap ∧ B ≤ g := by
      rcases hown.2 with ⟨rfl, h0⟩ | ⟨g, cap, cur, rfl, hb, _⟩
      · omega
      · exact ⟨g, cap, rfl, hb⟩
    have eb : (Value.slice (some ⟨g, 0, none⟩) n cap).ownBlock = some g := rfl
    rw [eb]
    clear eb
    go_enter Tryz.func50, Tryz.ntmps50
    go_wp2
    go_loopw [1, 5] (fun t i wr => ∃ j : Nat, j ≤ n ∧ i = .int .i64 (j : Int) ∧ t = .int .i64 ((k + j : Nat) : Int) ∧ wr.ownsRow B 2 1 (.slice (some ⟨g, 0, none⟩) n cap) n ((ints k n).take j ++ xs.drop j) ∧ w.grownBy wr (some g))
      (fun _ i _ => n - (intOf i).toNat)
    case atStart => exact ⟨0, Nat.zero_le _, rfl, rfl, by simpa using hown, gr_refl _ _⟩
    case round =>
      obtain ⟨j, hj, rfl, rfl, hownj, hbel⟩ := hrel
      clear hown
      by_cases hlt : j < n
      · have HSET := Nm.hide (ints_set (k := k) hxl hlt)
        obtain ⟨y, hy⟩ : ∃ y, wr.cell? ⟨g, j, none⟩ = some y := by
          rw [hownj.cellAt j (by omega)]
          exact ints_cell hxl hlt
        have hst := hownj.stored j (.int .i64 ((k + j : Nat) : Int))
        rw [HSET.out] at hst
        have hfz := hownj.frozenAt j
        have HR := Nm.hide hst.1
        have HB := Nm.hide (gr_trans hbel (gr_set wr g j (.int .i64 ((k + j : Nat) : Int))))
        clear hst hownj HSET
        go_wp2
        go_roundw
        case rel => exact ⟨j + 1, by omega, by go_num, by go_num, HR.out, HB.out⟩
        case measure => simp [intOf]; omega
      · have hje : j = n := by omega
        subst hje
        rw [ints_done hxl] at hownj
        go_wp2
        go_ret
        exact ⟨rfl, hownj, hbel⟩

set_option maxHeartbeats 800000 in
theorem markNode_own (kd : Int) (x y : ByteArray) (v : Value) (n B k : Nat) (xs : List Value) (w : World) (h : w.ownsRow B 2 1 v n xs) (hn : n ≤ 1000000) (hk : k ≤ 1000000) :
    Calls Tryz.prog 26 #[.agg #[.int .i64 kd, .string x, .string y, v], .int .i64 (k : Int)] w fun e w' => e = .returned (.int .i64 ((k + n : Nat) : Int)) ∧ w'.ownsRow B 2 1 v n (ints k n) ∧ ∃ w1, Below w.heap.size w w1 ∧ w1.grownBy w' v.ownBlock := by
  have hB := (Below.refl w.heap.size w).alloc (Nat.le_refl _) (.cells #[.int .i64 kd, .string x, .string y, v] 48)
  have hone := markInt64S_own v n B k xs _ (own_below h hB) hn hk
  obtain ⟨a, cap, rfl⟩ := own_sl h
  clear h
  go_enter Tryz.func26, Tryz.ntmps26
  go_wp2_with (go_at_call 50; refine hone.mono ?_; rintro e w1 ⟨rfl, hz, hm⟩)
  go_ret
  exact ⟨rfl, hz, _, hB, hm⟩

set_option maxHeartbeats 800000 in
theorem heldNode_any (kd : Int) (x y : ByteArray) (v : Value) (n k : Nat) (w : World) (h : CRow w v n 1 (ints k n)) (hn : n ≤ 1000000) (hk : k ≤ 1000000) :
    Calls Tryz.prog 27 #[.agg #[.int .i64 kd, .string x, .string y, v], .int .i64 (k : Int)] w fun e w' => e = .returned (.int .i64 ((k + n : Nat) : Int)) ∧ Below w.heap.size w w' := by
  have hB := (Below.refl w.heap.size w).alloc (Nat.le_refl _) (.cells #[.int .i64 kd, .string x, .string y, v] 48)
  have hone := heldInt64S_any v n k _ (h.below hB) (by omega) hk
  obtain ⟨_, a, cap, rfl, _⟩ := h
  have hnn : (0 : Int) ≤ ((k + n : Nat) : Int) := by omega
  generalize ((k + n : Nat) : Int) = R at *
  go_enter Tryz.func27, Tryz.ntmps27
  go_wp2_with (go_at_call 51; refine hone.mono ?_; rintro e w1 ⟨rfl, rfl⟩)
  go_ret
  exact ⟨rfl, hB⟩

set_option maxHeartbeats 800000 in
theorem eqNode_any (kd : Int) (x y : ByteArray) (l : List Int) (v u : Value) (w : World) (h : CRow w v l.length 1 (intCells l)) (h' : CRow w u l.length 1 (intCells l)) (hlen : l.length ≤ 1000000) :
    Calls Tryz.prog 25 #[.agg #[.int .i64 kd, .string x, .string y, v], .agg #[.int .i64 kd, .string x, .string y, u]] w fun e w' => e = .returned (.bool true) ∧ Below w.heap.size w w' := by
  have hB := (Below.refl w.heap.size w).alloc (Nat.le_refl _) (.cells #[.int .i64 kd, .string x, .string y, v] 48)
  have hB2 := hB.alloc hB.size (.cells #[.int .i64 kd, .string x, .string y, u] 48)
  have k1 := blk_alloc (blk_new w #[.int .i64 kd, .string x, .string y, v] 48) (.cells #[.int .i64 kd, .string x, .string y, u] 48)
  have k2 := blk_new (w.alloc (.cells #[.int .i64 kd, .string x, .string y, v] 48)) #[.int .i64 kd, .string x, .string y, u] 48
  rw [World.size_alloc] at k2
  have hone := eqInt64S_any v u l _ (h.below hB2) (h'.below hB2) (by omega)
  obtain ⟨_, a, cap, rfl, _⟩ := h
  obtain ⟨_, a', cap', rfl, _⟩ := h'
  have r1 := fun i => blk_cell k1 i
  have r2 := fun i => blk_cell k2 i
  have e1 : (kd != kd) = false := by simp
  have e2 : (x.toList != x.toList) = false := by simp
  have e3 : (y.toList != y.toList) = false := by simp
  clear k1 k2
  go_enter Tryz.func25, Tryz.ntmps25
  go_wp2_with (go_at_call 49; refine hone.mono ?_; rintro e w1 ⟨rfl, b1⟩)
  go_ret
  exact ⟨rfl, Nm.below_two hB2 b1⟩
end Go.Proofs.YtnpegoclghfmpaaGreat
