import Derived.Test.YtihhchebcojplaaJCmpM
import Derived.Test.YtihhchebcojplaaJJoin
import Derived.Test.YtihhchebcojplaaJDrH
import Derived.Deep.LoopGhost
import Derived.Test.YtihhchebcojplaaJDataM
import Derived.Test.YtihhchebcojplaaRows
import Derived.WalkSpells
import Derived.WalkLawsBesides
/- What stands below what, as plain mathematics. -/
namespace Go.Proofs.Ytihhchebcojplaa
open Go.RowKit

theorem splitF_of : ∀ (zs : List ByteArray) (f : Nat) (r : ByteArray), r.data.toList = Nm.joinL zs → (∀ x ∈ zs, 1 ≤ x.size ∧ x.size ≤ 63) → r.size < f → Nm.splitF f r = some zs := by
  intro zs
  induction zs with
  | nil =>
    intro f r hd _ hf
    have hsz : r.size = 1 := by have := congrArg List.length hd; simpa [Nm.joinL, Nm.preL] using this
    have hp : 0 < r.size := by omega
    have h0 : r[0].toNat = 0 := by
      have e := Nm.get_data hp
      rw [hd] at e
      have : r[0] = 0 := by simpa [Nm.joinL, Nm.preL] using e.symm
      rw [this]; rfl
    obtain ⟨g, rfl⟩ : ∃ g, f = g + 1 := ⟨f - 1, by omega⟩
    exact Nm.splitF_end g r hp h0 hsz
  | cons x t ih =>
    intro f r hd hx hf
    have hx0 := hx x List.mem_cons_self
    have hlen : r.size = (1 + x.size) + Nm.wsum t + 1 := by
      have := congrArg List.length hd
      rw [Nm.joinL_length] at this
      simp only [Nm.wsum] at this
      simpa using this
    have hp : 0 < r.size := by omega
    have e0 : r[0] = UInt8.ofNat x.size := by
      have e := Nm.get_data hp
      rw [hd] at e
      simpa [Nm.joinL, Nm.preL] using e.symm
    have hn : r[0].toNat = x.size := by rw [e0]; simp; omega
    have hd2 : r.data.toList = UInt8.ofNat x.size :: (x.data.toList ++ Nm.joinL t) := by rw [hd]; simp [Nm.joinL, Nm.preL]
    have xl : x.data.toList.length = x.size := by simp
    have c1 : r.extract 1 (x.size + 1) = x := by
      apply Nm.ba_ext
      have e1 : (r.extract 1 (x.size + 1)).data.toList = (r.data.toList.drop 1).take x.size := by simp
      rw [e1, hd2, List.drop_succ_cons, List.drop_zero, ← xl, List.take_left]
    have c2 : (r.extract (x.size + 1) r.size).data.toList = Nm.joinL t := by
      have e2 : (r.extract (x.size + 1) r.size).data.toList = (r.data.toList.drop 1).drop x.size := by
        simp only [ByteArray.data_extract, Array.toList_extract, List.drop_drop]
        rw [List.extract_eq_take_drop, List.take_of_length_le (by simp)]
        congr 1
        omega
      rw [e2, hd2, List.drop_succ_cons, List.drop_zero, ← xl, List.drop_left]
    obtain ⟨g, rfl⟩ : ∃ g, f = g + 1 := ⟨f - 1, by omega⟩
    rw [Nm.splitF_step g r hp (by omega) (by omega) (by omega), hn, c1, ih g _ c2 (fun y hy => hx y (List.mem_cons_of_mem _ hy)) (by simp; omega)]
    rfl

theorem split_of_join {zs : List ByteArray} (h : ∀ x ∈ zs, 1 ≤ x.size ∧ x.size ≤ 63) (hw : Nm.wsum zs ≤ 254) : Nm.split ⟨(Nm.joinL zs).toArray⟩ = some zs := by
  have hsz : (ByteArray.mk (Nm.joinL zs).toArray).size = Nm.wsum zs + 1 := by
    show (Nm.joinL zs).toArray.size = _
    rw [List.size_toArray, Nm.joinL_length]
  rw [Nm.split_short _ (by omega)]
  exact splitF_of zs 256 _ (by simp) h (by omega)

theorem ordS_zero (x y : ByteArray) : Nm.ordS x y = 0 ↔ Nm.small x = Nm.small y := by
  rw [Nm.ordS, ordL_zero]
  constructor
  · intro h
    apply Nm.ba_ext
    rw [Nm.small_data, Nm.small_data, h]
  · intro h
    rw [← Nm.small_data, ← Nm.small_data, h]

theorem cmpRev_zero : ∀ (a b : List ByteArray), Nm.cmpRev a b = 0 ↔ a.map Nm.small = b.map Nm.small := by
  intro a
  induction a with
  | nil =>
    intro b
    cases b with
    | nil => simp [Nm.cmpRev]
    | cons y b => simp [Nm.cmpRev]
  | cons x a ih =>
    intro b
    cases b with
    | nil => simp [Nm.cmpRev]
    | cons y b =>
      rw [Nm.cmpRev]
      by_cases h : Nm.ordS x y = 0
      · rw [if_pos h, ih b]
        simp [(ordS_zero x y).1 h]
      · rw [if_neg h]
        have hne : Nm.small x ≠ Nm.small y := fun e => h ((ordS_zero x y).2 e)
        simp [h, hne]

theorem cmpLs_zero (a b : List ByteArray) : Nm.cmpLs a b = 0 ↔ a.map Nm.small = b.map Nm.small := by
  rw [Nm.cmpLs, cmpRev_zero, List.map_reverse, List.map_reverse]
  constructor
  · intro h; exact List.reverse_inj.1 h
  · intro h; rw [h]

theorem smallL_joinL {zs : List ByteArray} (h : ∀ x ∈ zs, 1 ≤ x.size ∧ x.size ≤ 63) : Nm.smallL (Nm.joinL zs) = Nm.joinL (zs.map Nm.small) := by
  simp only [Nm.joinL]
  rw [Nm.preL_small zs (fun x hx => (h x hx).2)]
  simp [Nm.smallL, Nm.low]

theorem join_inj {a b : List ByteArray} (ha : ∀ x ∈ a, 1 ≤ x.size ∧ x.size ≤ 63) (hb : ∀ x ∈ b, 1 ≤ x.size ∧ x.size ≤ 63) (wa : Nm.wsum a ≤ 254) (wb : Nm.wsum b ≤ 254) (h : Nm.joinL a = Nm.joinL b) : a = b := by
  have h1 := split_of_join ha wa
  have h2 := split_of_join hb wb
  rw [h] at h1
  rw [h1] at h2
  exact Option.some.inj h2

theorem small_ok {zs : List ByteArray} (h : ∀ x ∈ zs, 1 ≤ x.size ∧ x.size ≤ 63) : ∀ x ∈ zs.map Nm.small, 1 ≤ x.size ∧ x.size ≤ 63 := by
  intro x hx
  obtain ⟨y, hy, rfl⟩ := List.mem_map.1 hx
  rw [Nm.small_size]
  exact h y hy

/-- Whether the labels 'xs' end with the labels 'ys', letters folded. -/
def underB (xs ys : List ByteArray) : Bool := decide (ys.length ≤ xs.length) && decide (Nm.cmpLs (xs.drop (xs.length - ys.length)) ys = 0)

/-- Names are the same just if their labels are. -/
theorem ord_join {zs ys : List ByteArray} {b : ByteArray} (hz : ∀ x ∈ zs, 1 ≤ x.size ∧ x.size ≤ 63) (wz : Nm.wsum zs ≤ 254) (hb : Nm.split b = some ys) :
    Nm.ordS ⟨(Nm.joinL zs).toArray⟩ b = 0 ↔ Nm.cmpLs zs ys = 0 := by
  obtain ⟨hj, hy⟩ := Nm.split_join hb
  obtain ⟨wy, wy2⟩ := Nm.split_size hb
  rw [Nm.ordS, ordL_zero, cmpLs_zero]
  simp only
  rw [← hj, smallL_joinL hz, smallL_joinL hy]
  constructor
  · intro h
    exact join_inj (small_ok hz) (small_ok hy) (by rw [Nm.wsum_small]; omega) (by rw [Nm.wsum_small]; omega) h
  · intro h; rw [h]

def isUnderS (a b : ByteArray) : Bool :=
  match Nm.split a, Nm.split b with
  | some xs, some ys => underB xs ys
  | _, _ => false

theorem isUnder_left {a b : ByteArray} (h : Nm.split a = none) : isUnderS a b = false := by simp [isUnderS, h]
theorem isUnder_right {a b : ByteArray} (h : Nm.split b = none) : isUnderS a b = false := by
  cases ha : Nm.split a <;> simp [isUnderS, h, ha]
theorem isUnder_some {a b : ByteArray} {xs ys : List ByteArray} (ha : Nm.split a = some xs) (hb : Nm.split b = some ys) : isUnderS a b = underB xs ys := by simp [isUnderS, ha, hb]

theorem drop_ok {xs : List ByteArray} (h : ∀ x ∈ xs, 1 ≤ x.size ∧ x.size ≤ 63) (k : Nat) : ∀ x ∈ xs.drop k, 1 ≤ x.size ∧ x.size ≤ 63 :=
  fun x hx => h x (List.mem_of_mem_drop hx)

/-- What the model asks: whether the name of the last labels is the other. -/
theorem under_same {xs ys : List ByteArray} {a b : ByteArray} (ha : Nm.split a = some xs) (hb : Nm.split b = some ys) (hl : ys.length ≤ xs.length) :
    sameS ⟨(Nm.joinL (xs.drop (xs.length - ys.length))).toArray⟩ b = underB xs ys := by
  have hx := (Nm.split_join ha).2
  have hw := Nm.split_size ha
  have hd := Nm.wsum_drop_le xs (xs.length - ys.length)
  have hs := split_of_join (drop_ok hx (xs.length - ys.length)) (by omega)
  rw [same_some hs hb, underB]
  simp only [hl, decide_true, Bool.true_and]
  rw [Bool.eq_iff_iff]
  simp only [decide_eq_true_eq]
  exact ord_join (drop_ok hx _) (by omega) hb

end Go.Proofs.Ytihhchebcojplaa
/- spec.l01Name by its contract: a name. -/
namespace Go.Proofs.Ytihhchebcojplaa
open Go.RowKit

def VL (ls : List ByteArray) : Prop := ∀ x ∈ ls, 1 ≤ x.size ∧ x.size ≤ 63
theorem VL.snoc {ls : List ByteArray} {x : ByteArray} (h : VL ls) (hx : 1 ≤ x.size ∧ x.size ≤ 63) : VL (ls ++ [x]) := by
  intro y hy
  rcases List.mem_append.1 hy with hy | hy
  · exact h y hy
  · simp at hy; subst hy; exact hx
theorem VL.name {ls : List ByteArray} (h : VL ls) (hw : Nm.wsum ls ≤ 254) : (Nm.split ⟨(Nm.joinL ls).toArray⟩).isSome = true := by rw [split_of_join h hw]; rfl

set_option maxRecDepth 100000 in
set_option maxHeartbeats 1600000 in
theorem l01NameV_any (g : Nat) (a : Option Addr) (n cap : Nat) (w : World) (h : Src w g a n cap) :
    Calls Try.prog 26 #[.pointer (some ⟨g, 0, none⟩)] w fun e w' => ∃ s : ByteArray, e = .returned (.string s) ∧ (Nm.split s).isSome = true ∧ Src w' g a n cap ∧ w.grownBy w' (some g) := by
  obtain ⟨i0, hi, hz0, hz1, hz2⟩ := info_parts Try.infoStr
  obtain ⟨hcode, hglt⟩ := src_code h
  go_enter Try.func26, Try.ntmps26
  go_wp2_with fail
  refine (l01Next_any g a n cap 5 _ (src_below h ((Below.refl _ _).alloc (Nat.le_refl _) _)) (by decide)).mono ?_
  rintro e w1 ⟨m, rfl, hm0, hm1, hsrc1, hgr1⟩
  have hm2 := hm1 (by decide)
  obtain ⟨m, rfl⟩ := Int.eq_ofNat_of_zero_le hm0
  have hrow1 : w1.ownsRow w.heap.size 9 1 (.slice (some ⟨w.heap.size, 0, none⟩) 0 0) 0 [] :=
    (World.ownsRow_made w #[] 0 (Nat.le_refl _) (by decide) rfl).kept hgr1 (.inr (by simp only [Value.ownBlock, ne_eq, Option.some.injEq]; omega))
  have hg1 : w.grownBy w1 (some g) := grown_step (grown_alloc (World.grownBy.refl _ _) _) hgr1
  clear hm1 hgr1 h
  go_wp2_with fail
  go_loopw [3, 5] (fun v i wr => ∃ (k : Nat) (ls : List ByteArray), k ≤ m ∧ i = .int .i64 k ∧ wr.ownsRow w.heap.size 9 1 v ls.length (ls.map Value.string) ∧ Nm.wsum ls ≤ 5 * k ∧ VL ls ∧ ls.length = k ∧ Src wr g a n cap ∧ w.grownBy wr (some g))
    (fun _ i _ => m - (intOf i).toNat)
  case atStart => exact ⟨0, [], Nat.zero_le _, rfl, hrow1, by simp [Nm.wsum], (by intro x hx; cases hx), rfl, hsrc1, hg1⟩
  case round =>
    obtain ⟨k, ls, hk, rfl, hown, hws, hvl, hlk, hsrc, hgr⟩ := hrel
    have hsz := hgr.size
    clear hrow1 hsrc1 hg1
    have HLK := Nm.hide hlk
    clear hlk
    by_cases hlt : k < m
    · go_wp2_with (first | (go_at_call 49; refine (l01LabelV_any g a n cap _ hsrc).mono ?_; rintro e w3 ⟨x, rfl, hx, hsrc3, hgr3⟩; have hown3 := hown.kept hgr3 (row_src hown hsrc (by decide)); have hg3 := grown_step hgr hgr3; have hsz3 := hg3.size) | (at_builtin; refine wpList_append_own _ rfl (.tmp 15) (.tmp 18) 101 rfl w.heap.size 9 i0 (.string ByteArray.empty) 1 16 Try.underlying101 hi hz0 hz1 hz2 rfl (by decide) _ _ _ rfl (hown3.alloc _) ⟨w3.heap.size, 0, none⟩ 1 1 [.string x] rfl rfl (cell_one_new _ _ _) (Nm.one_cell _ rfl) (by have := HLK.out; unfold maxLen; omega) (by have := HLK.out; omega) (by simp; omega) ?_; intro vb wb hown4 hgrow4 hnl4; clear hnl4; have R := str_step hown3 hsrc3 hg3 hglt hcode hown4 hgrow4; clear hown4 hgrow4))
      go_roundw
      case rel => exact ⟨k + 1, _, by omega, by go_num, R.1, by rw [wsum_snoc]; omega, hvl.snoc ⟨hx.1, by omega⟩, by have := HLK.out; simp; omega, R.2.1, R.2.2⟩
      case measure => simp [intOf]; omega
    · have hke : k = m := by omega
      subst hke
      go_wp2_with fail
      refine (l01Next_any g a n cap 3 _ hsrc (by decide)).mono ?_
      rintro e w2 ⟨q, rfl, hq0, hq1, hsrc2, hgr2⟩
      have hown2 := hown.kept hgr2 (row_src hown hsrc (by decide))
      have hg2 := grown_step hgr hgr2
      have hsz2 := hg2.size
      have hbl : Nm.wsum ls ≤ 200 := by omega
      clear hq1 hown hsrc hgr hgr2 hlt
      by_cases hq : 0 < q
      · go_wp2_with (at_builtin; refine wpList_append_own _ rfl (.tmp 23) (.tmp 24) 101 rfl w.heap.size 9 i0 (.string ByteArray.empty) 1 16 Try.underlying101 hi hz0 hz1 hz2 rfl (by decide) _ _ _ rfl (hown2.alloc _) ⟨w2.heap.size, 0, none⟩ 1 1 [.string ⟨#[101, 120, 97, 109, 112, 108, 101]⟩] rfl rfl (cell_one_new _ _ _) (Nm.one_cell _ rfl) (by have := HLK.out; unfold maxLen; omega) (by have := HLK.out; omega) (by simp; omega) ?_; intro vb wb hown4 hgrow4 hnl4; clear hnl4; have R := str_step hown2 hsrc2 hg2 hglt hcode hown4 hgrow4; clear hown4 hgrow4)
        have hw9 : Nm.wsum (ls ++ [⟨#[101, 120, 97, 109, 112, 108, 101]⟩]) ≤ 254 := by
          rw [wsum_snoc]
          have : (ByteArray.mk #[101, 120, 97, 109, 112, 108, 101]).size = 7 := rfl
          omega
        have hv9 : VL (ls ++ [⟨#[101, 120, 97, 109, 112, 108, 101]⟩]) := hvl.snoc (by decide)
        obtain ⟨hownC, hsC, hgC⟩ := R
        generalize ls ++ [⟨#[101, 120, 97, 109, 112, 108, 101]⟩] = ls2 at hownC hw9 hv9
        clear hown2 hsrc2 hg2
        refine (l01Next_any g a n cap 20 _ hsC (by decide)).mono ?_
        rintro e wn ⟨p, rfl, hp0, hp1, hsN, hgN⟩
        have hownN := hownC.kept hgN (row_src hownC hsC (by decide))
        have hgNN := grown_step hgC hgN
        have hszN := hgNN.size
        clear hp1 hownC hsC hgC hgN
        by_cases hp : p = 0
        · subst hp
          clear hownN
          go_wp2_with fail
          go_loopg [3] 300 (fun gh v wr => ∃ ls3 : List ByteArray, wr.ownsRow w.heap.size 9 1 v ls3.length (ls3.map Value.string) ∧ Nm.wsum ls3 + gh = 300 ∧ Nm.wsum ls3 ≤ 252 ∧ VL ls3 ∧ Src wr g a n cap ∧ w.grownBy wr (some g))
          case atStart => exact ⟨[], World.ownsRow_made wn #[] 0 hszN (by decide) rfl, by simp [Nm.wsum], by simp [Nm.wsum], (by intro x hx; cases hx), src_below hsN ((Below.refl _ _).alloc (Nat.le_refl _) _), grown_alloc hgNN _⟩
          case round =>
            obtain ⟨ls3, hown3, hgh, hw3, hv3, hs3, hg3⟩ := hrel
            have HJ3 : Hid ((Nm.split ⟨(Nm.joinL ls3).toArray⟩).isSome = true) := hv3.name (by omega)
            have hl3 := Nm.length_le_wsum ls3
            clear hsN hgNN hszN
            go_wp2_with fail
            refine (l01Join_any _ ls3 _ (Nm.SRow.of_owns hown3) (by omega)).mono ?_
            rintro e wj ⟨rfl, hbj⟩
            have hownj := own_below hown3 hbj
            have hsj := src_below hs3 hbj
            have hgj := grown_below hg3 hbj
            have hszj := hgj.size
            have hjs := mkj_size ls3
            have hjn := fun W hq => l01Join_any u3 ls3 W hq (by omega)
            generalize ByteArray.mk (Nm.joinL ls3).toArray = J at *
            clear hown3 hs3 hg3 hbj
            by_cases hlt : Nm.wsum ls3 + 1 < 190
            · have hJ : (J.size : Int) < 190 := by omega
              clear hjs hjn
              go_wp2_with (first | (go_at_call 12; refine (l01Next_any g a n cap 63 _ hsj (by decide)).mono ?_; rintro e w5 ⟨r, rfl, hr0, hr1, hs5, hg5⟩; have hr2 := hr1 (by decide); have hown5 := hownj.kept hg5 (row_src hownj hsj (by decide)); have hgg5 := grown_step hgj hg5; clear hr1) | (go_at_call 51; refine (l01Bytes_any g a n cap _ _ hs5 (by omega) (by omega)).mono ?_; rintro e w6 ⟨x, rfl, hx, hs6, hg6⟩; have hown6 := hown5.kept hg6 (row_src hown5 hs5 (by decide)); have hgg6 := grown_step hgg5 hg6; have hsz6 := hgg6.size) | (at_builtin; refine wpList_append_own _ rfl (.tmp 34) (.tmp 40) 101 rfl w.heap.size 9 i0 (.string ByteArray.empty) 1 16 Try.underlying101 hi hz0 hz1 hz2 rfl (by decide) _ _ _ rfl (hown6.alloc _) ⟨w6.heap.size, 0, none⟩ 1 1 [.string x] rfl rfl (cell_one_new _ _ _) (Nm.one_cell _ rfl) (by unfold maxLen; omega) (by omega) (by simp; omega) ?_; intro vb wb hown7 hgrow7 hnl7; clear hnl7; have R7 := str_step hown6 hs6 hgg6 hglt hcode hown7 hgrow7; clear hown7 hgrow7))
              have hsn := wsum_snoc ls3 x
              go_roundg (300 - Nm.wsum (ls3 ++ [x]))
              case measure => omega
              case rel => exact ⟨_, R7.1, by omega, by omega, hv3.snoc ⟨by omega, by omega⟩, R7.2.1, R7.2.2⟩
            · have hJ : (190 : Int) ≤ (J.size : Int) := by omega
              have hJ2 : (J.size : Int) ≤ 253 := by omega
              go_wp2_with fail
              refine (hjn _ (Nm.SRow.of_owns hownj)).mono ?_
              rintro e wk ⟨rfl, hbk⟩
              have hownk := own_below hownj hbk
              have hsk := src_below hsj hbk
              have hgk := grown_below hgj hbk
              have hszk := hgk.size
              clear hownj hsj hgj hbk
              by_cases hroom : J.size ≤ 253 ∧ 191 ≤ J.size
              · have r1 : (0 : Int) < 254 - (J.size : Int) := by omega
                have r2 : 254 - (J.size : Int) ≤ 63 := by omega
                have r1' : (0 : Int) < 255 - (J.size : Int) - 1 := by omega
                have r2' : 255 - (J.size : Int) - 1 ≤ 63 := by omega
                go_wp2_with (first | (go_at_call 51; refine (l01Bytes_any g a n cap _ _ hsk (by omega) (by omega)).mono ?_; rintro e w6 ⟨x, rfl, hx, hs6, hg6⟩; have hown6 := hownk.kept hg6 (row_src hownk hsk (by decide)); have hgg6 := grown_step hgk hg6; have hsz6 := hgg6.size) | (at_builtin; refine wpList_append_own _ rfl (.tmp 53) (.tmp 57) 101 rfl w.heap.size 9 i0 (.string ByteArray.empty) 1 16 Try.underlying101 hi hz0 hz1 hz2 rfl (by decide) _ _ _ rfl (hown6.alloc _) ⟨w6.heap.size, 0, none⟩ 1 1 [.string x] rfl rfl (cell_one_new _ _ _) (Nm.one_cell _ rfl) (by unfold maxLen; omega) (by omega) (by simp; omega) ?_; intro vb wb hown7 hgrow7 hnl7; clear hnl7; have R7 := str_step hown6 hs6 hgg6 hglt hcode hown7 hgrow7; clear hown7 hgrow7))
                obtain ⟨hown8, hs8, hg8⟩ := R7
                have hsn := wsum_snoc ls3 x
                have hj8 := mkj_size (ls3 ++ [x])
                have HJ8 : Hid ((Nm.split ⟨(Nm.joinL (ls3 ++ [x])).toArray⟩).isSome = true) := (hv3.snoc ⟨by omega, by omega⟩).name (by omega)
                refine (l01Join_any _ (ls3 ++ [x]) _ (Nm.SRow.of_owns hown8) (by omega)).mono ?_
                rintro e w9 ⟨rfl, hb9⟩
                have hown9 := own_below hown8 hb9
                have hs9 := src_below hs8 hb9
                have hg9 := grown_below hg8 hb9
                have hjn9 := fun V W hq => l01Join_any V (ls3 ++ [x]) W hq (by omega)
                generalize ByteArray.mk (Nm.joinL (ls3 ++ [x])).toArray = J8 at *
                have hJ8 : (J8.size : Int) ≤ 255 := by omega
                clear hj8 hjs
                go_wp2_with fail
                refine (hjn9 _ _ (Nm.SRow.of_owns hown9)).mono ?_
                rintro e w10 ⟨rfl, hb10⟩
                go_wp2
                go_ret
                exact ⟨_, rfl, HJ8.out, src_below hs9 hb10, grown_below hg9 hb10⟩
              · have r1 : (63 : Int) < 255 - (J.size : Int) - 1 := by omega
                have r0 : (0 : Int) < 255 - (J.size : Int) - 1 := by omega
                have r2 : decide (255 - (J.size : Int) - 1 ≤ 63) = false := by simp; omega
                go_wp2_with fail
                refine (hjn _ (Nm.SRow.of_owns hownk)).mono ?_
                rintro e w9 ⟨rfl, hb9⟩
                have hown9 := own_below hownk hb9
                have hs9 := src_below hsk hb9
                have hg9 := grown_below hgk hb9
                have hJ8 : (J.size : Int) ≤ 255 := by omega
                have HJ8 := HJ3
                clear hjs
                go_wp2_with fail
                refine (hjn _ (Nm.SRow.of_owns hown9)).mono ?_
                rintro e w10 ⟨rfl, hb10⟩
                go_wp2
                go_ret
                exact ⟨_, rfl, HJ8.out, src_below hs9 hb10, grown_below hg9 hb10⟩
        · have hp' : (p == 0) = false := by rw [beq_eq_false_iff_ne]; exact hp
          go_wp2_with fail
          refine (l01Join_any _ ls2 _ (Nm.SRow.of_owns hownN) (by omega)).mono ?_
          rintro e wz ⟨rfl, hbz⟩
          have hjz := mkj_size ls2
          have HJ8 : Hid ((Nm.split ⟨(Nm.joinL ls2).toArray⟩).isSome = true) := hv9.name hw9
          generalize ByteArray.mk (Nm.joinL ls2).toArray = J at *
          clear hjz
          go_wp2
          go_ret
          exact ⟨_, rfl, HJ8.out, src_below hsN hbz, grown_below hgNN hbz⟩
      · have hq' : q ≤ 0 := by omega
        have hw9 : Nm.wsum ls ≤ 400 := by omega
        have hownC := hown2
        have hsC := hsrc2
        have hgC := hg2
        clear hown2 hsrc2 hg2
        go_wp2_with fail
        refine (l01Next_any g a n cap 20 _ hsC (by decide)).mono ?_
        rintro e wn ⟨p, rfl, hp0, hp1, hsN, hgN⟩
        have hownN := hownC.kept hgN (row_src hownC hsC (by decide))
        have hgNN := grown_step hgC hgN
        have hszN := hgNN.size
        clear hp1 hownC hsC hgC hgN
        by_cases hp : p = 0
        · subst hp
          clear hownN
          go_wp2_with fail
          go_loopg [3] 300 (fun gh v wr => ∃ ls3 : List ByteArray, wr.ownsRow w.heap.size 9 1 v ls3.length (ls3.map Value.string) ∧ Nm.wsum ls3 + gh = 300 ∧ Nm.wsum ls3 ≤ 252 ∧ VL ls3 ∧ Src wr g a n cap ∧ w.grownBy wr (some g))
          case atStart => exact ⟨[], World.ownsRow_made wn #[] 0 hszN (by decide) rfl, by simp [Nm.wsum], by simp [Nm.wsum], (by intro x hx; cases hx), src_below hsN ((Below.refl _ _).alloc (Nat.le_refl _) _), grown_alloc hgNN _⟩
          case round =>
            obtain ⟨ls3, hown3, hgh, hw3, hv3, hs3, hg3⟩ := hrel
            have HJ3 : Hid ((Nm.split ⟨(Nm.joinL ls3).toArray⟩).isSome = true) := hv3.name (by omega)
            have hl3 := Nm.length_le_wsum ls3
            clear hsN hgNN hszN
            go_wp2_with fail
            refine (l01Join_any _ ls3 _ (Nm.SRow.of_owns hown3) (by omega)).mono ?_
            rintro e wj ⟨rfl, hbj⟩
            have hownj := own_below hown3 hbj
            have hsj := src_below hs3 hbj
            have hgj := grown_below hg3 hbj
            have hszj := hgj.size
            have hjs := mkj_size ls3
            have hjn := fun W hq => l01Join_any u3 ls3 W hq (by omega)
            generalize ByteArray.mk (Nm.joinL ls3).toArray = J at *
            clear hown3 hs3 hg3 hbj
            by_cases hlt : Nm.wsum ls3 + 1 < 190
            · have hJ : (J.size : Int) < 190 := by omega
              clear hjs hjn
              go_wp2_with (first | (go_at_call 12; refine (l01Next_any g a n cap 63 _ hsj (by decide)).mono ?_; rintro e w5 ⟨r, rfl, hr0, hr1, hs5, hg5⟩; have hr2 := hr1 (by decide); have hown5 := hownj.kept hg5 (row_src hownj hsj (by decide)); have hgg5 := grown_step hgj hg5; clear hr1) | (go_at_call 51; refine (l01Bytes_any g a n cap _ _ hs5 (by omega) (by omega)).mono ?_; rintro e w6 ⟨x, rfl, hx, hs6, hg6⟩; have hown6 := hown5.kept hg6 (row_src hown5 hs5 (by decide)); have hgg6 := grown_step hgg5 hg6; have hsz6 := hgg6.size) | (at_builtin; refine wpList_append_own _ rfl (.tmp 34) (.tmp 40) 101 rfl w.heap.size 9 i0 (.string ByteArray.empty) 1 16 Try.underlying101 hi hz0 hz1 hz2 rfl (by decide) _ _ _ rfl (hown6.alloc _) ⟨w6.heap.size, 0, none⟩ 1 1 [.string x] rfl rfl (cell_one_new _ _ _) (Nm.one_cell _ rfl) (by unfold maxLen; omega) (by omega) (by simp; omega) ?_; intro vb wb hown7 hgrow7 hnl7; clear hnl7; have R7 := str_step hown6 hs6 hgg6 hglt hcode hown7 hgrow7; clear hown7 hgrow7))
              have hsn := wsum_snoc ls3 x
              go_roundg (300 - Nm.wsum (ls3 ++ [x]))
              case measure => omega
              case rel => exact ⟨_, R7.1, by omega, by omega, hv3.snoc ⟨by omega, by omega⟩, R7.2.1, R7.2.2⟩
            · have hJ : (190 : Int) ≤ (J.size : Int) := by omega
              have hJ2 : (J.size : Int) ≤ 253 := by omega
              go_wp2_with fail
              refine (hjn _ (Nm.SRow.of_owns hownj)).mono ?_
              rintro e wk ⟨rfl, hbk⟩
              have hownk := own_below hownj hbk
              have hsk := src_below hsj hbk
              have hgk := grown_below hgj hbk
              have hszk := hgk.size
              clear hownj hsj hgj hbk
              by_cases hroom : J.size ≤ 253 ∧ 191 ≤ J.size
              · have r1 : (0 : Int) < 254 - (J.size : Int) := by omega
                have r2 : 254 - (J.size : Int) ≤ 63 := by omega
                have r1' : (0 : Int) < 255 - (J.size : Int) - 1 := by omega
                have r2' : 255 - (J.size : Int) - 1 ≤ 63 := by omega
                go_wp2_with (first | (go_at_call 51; refine (l01Bytes_any g a n cap _ _ hsk (by omega) (by omega)).mono ?_; rintro e w6 ⟨x, rfl, hx, hs6, hg6⟩; have hown6 := hownk.kept hg6 (row_src hownk hsk (by decide)); have hgg6 := grown_step hgk hg6; have hsz6 := hgg6.size) | (at_builtin; refine wpList_append_own _ rfl (.tmp 53) (.tmp 57) 101 rfl w.heap.size 9 i0 (.string ByteArray.empty) 1 16 Try.underlying101 hi hz0 hz1 hz2 rfl (by decide) _ _ _ rfl (hown6.alloc _) ⟨w6.heap.size, 0, none⟩ 1 1 [.string x] rfl rfl (cell_one_new _ _ _) (Nm.one_cell _ rfl) (by unfold maxLen; omega) (by omega) (by simp; omega) ?_; intro vb wb hown7 hgrow7 hnl7; clear hnl7; have R7 := str_step hown6 hs6 hgg6 hglt hcode hown7 hgrow7; clear hown7 hgrow7))
                obtain ⟨hown8, hs8, hg8⟩ := R7
                have hsn := wsum_snoc ls3 x
                have hj8 := mkj_size (ls3 ++ [x])
                have HJ8 : Hid ((Nm.split ⟨(Nm.joinL (ls3 ++ [x])).toArray⟩).isSome = true) := (hv3.snoc ⟨by omega, by omega⟩).name (by omega)
                refine (l01Join_any _ (ls3 ++ [x]) _ (Nm.SRow.of_owns hown8) (by omega)).mono ?_
                rintro e w9 ⟨rfl, hb9⟩
                have hown9 := own_below hown8 hb9
                have hs9 := src_below hs8 hb9
                have hg9 := grown_below hg8 hb9
                have hjn9 := fun V W hq => l01Join_any V (ls3 ++ [x]) W hq (by omega)
                generalize ByteArray.mk (Nm.joinL (ls3 ++ [x])).toArray = J8 at *
                have hJ8 : (J8.size : Int) ≤ 255 := by omega
                clear hj8 hjs
                go_wp2_with fail
                refine (hjn9 _ _ (Nm.SRow.of_owns hown9)).mono ?_
                rintro e w10 ⟨rfl, hb10⟩
                go_wp2
                go_ret
                exact ⟨_, rfl, HJ8.out, src_below hs9 hb10, grown_below hg9 hb10⟩
              · have r1 : (63 : Int) < 255 - (J.size : Int) - 1 := by omega
                have r0 : (0 : Int) < 255 - (J.size : Int) - 1 := by omega
                have r2 : decide (255 - (J.size : Int) - 1 ≤ 63) = false := by simp; omega
                go_wp2_with fail
                refine (hjn _ (Nm.SRow.of_owns hownk)).mono ?_
                rintro e w9 ⟨rfl, hb9⟩
                have hown9 := own_below hownk hb9
                have hs9 := src_below hsk hb9
                have hg9 := grown_below hgk hb9
                have hJ8 : (J.size : Int) ≤ 255 := by omega
                have HJ8 := HJ3
                clear hjs
                go_wp2_with fail
                refine (hjn _ (Nm.SRow.of_owns hown9)).mono ?_
                rintro e w10 ⟨rfl, hb10⟩
                go_wp2
                go_ret
                exact ⟨_, rfl, HJ8.out, src_below hs9 hb10, grown_below hg9 hb10⟩
        · have hp' : (p == 0) = false := by rw [beq_eq_false_iff_ne]; exact hp
          go_wp2_with fail
          refine (l01Join_any _ ls _ (Nm.SRow.of_owns hownN) (by omega)).mono ?_
          rintro e wz ⟨rfl, hbz⟩
          have hjz := mkj_size ls
          have HJ8 : Hid ((Nm.split ⟨(Nm.joinL ls).toArray⟩).isSome = true) := hvl.name (by omega)
          generalize ByteArray.mk (Nm.joinL ls).toArray = J at *
          clear hjz
          go_wp2
          go_ret
          exact ⟨_, rfl, HJ8.out, src_below hsN hbz, grown_below hgNN hbz⟩
end Go.Proofs.Ytihhchebcojplaa
/- The model's small functions of data, by their contracts. -/
namespace Go.Proofs.Ytihhchebcojplaa
open Go.RowKit

set_option maxRecDepth 100000 in
set_option maxHeartbeats 800000 in
theorem l02Alnum_any (c : UInt8) (w : World) :
    Calls Try.prog 71 #[.int .u8 c.toNat] w fun e w' => e = .returned (.bool (Dt.alnumB c)) ∧ w' = w := by
  have key : ∀ b, Dt.alnumB c = b → Hid (Dt.alnumB c = b) := fun _ h => h
  by_cases h1 : 48 ≤ c.toNat
  · by_cases h2 : c.toNat ≤ 57
    · have HA := key true (by simp [Dt.alnumB, h1, h2])
      have d1 : (48 : Int) ≤ (c.toNat : Int) := by omega
      have d2 : (c.toNat : Int) ≤ 57 := by omega
      go_enter Try.func71, Try.ntmps71
      go_wp2
      go_ret
      rw [HA.out]
      exact ⟨rfl, rfl⟩
    · by_cases h3 : 97 ≤ c.toNat
      · by_cases h4 : c.toNat ≤ 122
        · have HA := key true (by simp [Dt.alnumB, h1, h2, h3, h4])
          have d1 : (48 : Int) ≤ (c.toNat : Int) := by omega
          have d2 : (57 : Int) < (c.toNat : Int) := by omega
          have e2 : decide ((c.toNat : Int) ≤ 57) = false := by simp; omega
          have d3 : (97 : Int) ≤ (c.toNat : Int) := by omega
          have d4 : (c.toNat : Int) ≤ 122 := by omega
          go_enter Try.func71, Try.ntmps71
          go_wp2
          go_ret
          rw [HA.out]
          exact ⟨rfl, rfl⟩
        · have HA := key false (by simp [Dt.alnumB]; omega)
          have d1 : (48 : Int) ≤ (c.toNat : Int) := by omega
          have d2 : (57 : Int) < (c.toNat : Int) := by omega
          have e2 : decide ((c.toNat : Int) ≤ 57) = false := by simp; omega
          have d3 : (97 : Int) ≤ (c.toNat : Int) := by omega
          have d4 : (122 : Int) < (c.toNat : Int) := by omega
          have e4 : decide ((c.toNat : Int) ≤ 122) = false := by simp; omega
          have d5 : (65 : Int) ≤ (c.toNat : Int) := by omega
          have d6 : (90 : Int) < (c.toNat : Int) := by omega
          have e6 : decide ((c.toNat : Int) ≤ 90) = false := by simp; omega
          go_enter Try.func71, Try.ntmps71
          go_wp2
          go_ret
          rw [HA.out]
          exact ⟨rfl, rfl⟩
      · by_cases h5 : 65 ≤ c.toNat ∧ c.toNat ≤ 90
        · have HA := key true (by simp [Dt.alnumB]; omega)
          have d1 : (48 : Int) ≤ (c.toNat : Int) := by omega
          have d2 : (57 : Int) < (c.toNat : Int) := by omega
          have e2 : decide ((c.toNat : Int) ≤ 57) = false := by simp; omega
          have d3 : (c.toNat : Int) < 97 := by omega
          have d5 : (65 : Int) ≤ (c.toNat : Int) := by omega
          have d6 : (c.toNat : Int) ≤ 90 := by omega
          go_enter Try.func71, Try.ntmps71
          go_wp2
          go_ret
          rw [HA.out]
          exact ⟨rfl, rfl⟩
        · have HA := key false (by simp [Dt.alnumB]; omega)
          have d1 : (48 : Int) ≤ (c.toNat : Int) := by omega
          have d2 : (57 : Int) < (c.toNat : Int) := by omega
          have e2 : decide ((c.toNat : Int) ≤ 57) = false := by simp; omega
          have d3 : (c.toNat : Int) < 97 := by omega
          by_cases h6 : 65 ≤ c.toNat
          · have d5 : (65 : Int) ≤ (c.toNat : Int) := by omega
            have d6 : (90 : Int) < (c.toNat : Int) := by omega
            have e6 : decide ((c.toNat : Int) ≤ 90) = false := by simp; omega
            go_enter Try.func71, Try.ntmps71
            go_wp2
            go_ret
            rw [HA.out]
            exact ⟨rfl, rfl⟩
          · have d5 : (c.toNat : Int) < 65 := by omega
            go_enter Try.func71, Try.ntmps71
            go_wp2
            go_ret
            rw [HA.out]
            exact ⟨rfl, rfl⟩
  · have HA := key false (by simp [Dt.alnumB]; omega)
    have d1 : (c.toNat : Int) < 48 := by omega
    have d3 : (c.toNat : Int) < 97 := by omega
    have d5 : (c.toNat : Int) < 65 := by omega
    go_enter Try.func71, Try.ntmps71
    go_wp2
    go_ret
    rw [HA.out]
    exact ⟨rfl, rfl⟩

set_option maxRecDepth 100000 in
set_option maxHeartbeats 800000 in
theorem l02Form_any (t : Int) (w : World) :
    Calls Try.prog 47 #[.int .i64 t] w fun e w' => e = .returned (.string (Dt.formS t)) ∧ w' = w := by
  by_cases h : t = 1 ∨ t = 2 ∨ t = 5 ∨ t = 6 ∨ t = 12 ∨ t = 13 ∨ t = 15 ∨ t = 16 ∨ t = 28 ∨ t = 33 ∨ t = 35 ∨ t = 39 ∨ t = 47 ∨ t = 257
  · rcases h with rfl | rfl | rfl | rfl | rfl | rfl | rfl | rfl | rfl | rfl | rfl | rfl | rfl | rfl
    all_goals
      go_enter Try.func47, Try.ntmps47
      go_wp2
      go_ret
      exact ⟨rfl, rfl⟩
  · have HA : Hid (Dt.formS t = ⟨#[42]⟩) := by
      show _ = _
      unfold Dt.formS
      simp only [show ¬ t = 1 by omega, show ¬ (t = 2 ∨ t = 5 ∨ t = 12 ∨ t = 39) by omega, show ¬ t = 6 by omega, show ¬ t = 13 by omega, show ¬ t = 15 by omega, show ¬ t = 16 by omega, show ¬ t = 28 by omega, show ¬ t = 33 by omega, show ¬ t = 35 by omega, show ¬ t = 47 by omega, show ¬ t = 257 by omega, if_false]
    have b1 : (t == 1) = false := by rw [beq_eq_false_iff_ne]; omega
    have b2 : (t == 2) = false := by rw [beq_eq_false_iff_ne]; omega
    have b3 : (t == 5) = false := by rw [beq_eq_false_iff_ne]; omega
    have b4 : (t == 6) = false := by rw [beq_eq_false_iff_ne]; omega
    have b5 : (t == 12) = false := by rw [beq_eq_false_iff_ne]; omega
    have b6 : (t == 13) = false := by rw [beq_eq_false_iff_ne]; omega
    have b7 : (t == 15) = false := by rw [beq_eq_false_iff_ne]; omega
    have b8 : (t == 16) = false := by rw [beq_eq_false_iff_ne]; omega
    have b9 : (t == 28) = false := by rw [beq_eq_false_iff_ne]; omega
    have b10 : (t == 33) = false := by rw [beq_eq_false_iff_ne]; omega
    have b11 : (t == 35) = false := by rw [beq_eq_false_iff_ne]; omega
    have b12 : (t == 39) = false := by rw [beq_eq_false_iff_ne]; omega
    have b13 : (t == 47) = false := by rw [beq_eq_false_iff_ne]; omega
    have b14 : (t == 257) = false := by rw [beq_eq_false_iff_ne]; omega
    clear h
    go_enter Try.func47, Try.ntmps47
    go_wp2
    go_ret
    rw [HA.out]
    exact ⟨rfl, rfl⟩
theorem txt_short {s : ByteArray} (h : 0 < s.size) (h1 : s.size < s[0].toNat + 1) : Dt.txtS s = ByteArray.empty := by
  rw [Dt.txtS, dif_pos h, if_neg (by omega)]
theorem txt_good {s : ByteArray} (h : 0 < s.size) (h1 : s[0].toNat + 1 ≤ s.size) : Dt.txtS s = s.extract 0 (s[0].toNat + 1) := by
  rw [Dt.txtS, dif_pos h, if_pos h1]
theorem txt_none {s : ByteArray} (h : s.size = 0) : Dt.txtS s = ByteArray.empty := by
  rw [Dt.txtS, dif_neg (by omega)]

set_option maxRecDepth 100000 in
set_option maxHeartbeats 800000 in
theorem l02Text_any (s : ByteArray) (w : World) (hs : s.size ≤ maxLen) :
    Calls Try.prog 70 #[.string s] w fun e w' => e = .returned (.string (Dt.txtS s)) ∧ w' = w := by
  unfold maxLen at hs
  by_cases h0 : s.size = 0
  · have HA := Nm.hide (txt_none h0)
    have he : s = ByteArray.empty := by
      apply ByteArray.ext
      exact Array.eq_empty_of_size_eq_zero h0
    subst he
    go_enter Try.func70, Try.ntmps70
    go_wp2
    go_ret
    rw [HA.out]
    exact ⟨rfl, rfl⟩
  · have hp : 0 < s.size := by omega
    have hp' : (0 : Int) < (s.size : Int) := by omega
    have he : (s.toList == []) = false := by
      rw [beq_eq_false_iff_ne, ByteArray.toList_eq]
      intro e
      have h9 := congrArg List.length e
      rw [Array.length_toList] at h9
      exact h0 h9
    have hc : (s[0].toNat : Int) < 256 := by have := s[0].toNat_lt; omega
    by_cases h1 : s.size < s[0].toNat + 1
    · have HA := Nm.hide (txt_short hp h1)
      have h1' : (s.size : Int) < (s[0].toNat : Int) + 1 := by omega
      go_enter Try.func70, Try.ntmps70
      go_wp2
      go_ret
      rw [HA.out]
      exact ⟨rfl, rfl⟩
    · have HA := Nm.hide (txt_good hp (by omega))
      have h1' : (s[0].toNat : Int) + 1 ≤ (s.size : Int) := by omega
      go_enter Try.func70, Try.ntmps70
      go_wp2
      go_ret
      rw [HA.out]
      exact ⟨rfl, rfl⟩
end Go.Proofs.Ytihhchebcojplaa
/- spec.l02NameAt by its contract. -/
namespace Go.Proofs.Ytihhchebcojplaa
open Go.RowKit

theorem name_zero {s : ByteArray} {i : Nat} (h : i < s.size) (h2 : i < 255) (h0 : s[i].toNat = 0) : Dt.nameF 256 s i = s.extract 0 (i + 1) := by
  rw [Dt.nameF, dif_pos ⟨h, h2⟩, if_pos h0]
theorem name_big {s : ByteArray} {i : Nat} (h : i < s.size) (h2 : i < 255) (h0 : 63 < s[i].toNat) : Dt.nameF 256 s i = ByteArray.empty := by
  rw [Dt.nameF, dif_pos ⟨h, h2⟩, if_neg (by omega), if_pos h0]
theorem name_step {s : ByteArray} {i : Nat} (h : i < s.size) (h2 : i < 255) (h0 : s[i].toNat ≠ 0) (h1 : s[i].toNat ≤ 63) : Dt.nameF 256 s i = Dt.nameF 256 s (i + s[i].toNat + 1) := by
  rw [Dt.nameF, dif_pos ⟨h, h2⟩, if_neg h0, if_neg (by omega)]
  exact Dt.nameF_enough _ _ _ _ (by omega) (by omega)
theorem name_end {s : ByteArray} {i : Nat} (h : ¬ (i < s.size ∧ i < 255)) : Dt.nameF 256 s i = ByteArray.empty := by
  rw [Dt.nameF, dif_neg h]

set_option maxRecDepth 100000 in
set_option maxHeartbeats 800000 in
theorem l02NameAt_any (s : ByteArray) (w : World) :
    Calls Try.prog 69 #[.string s] w fun e w' => e = .returned (.string (Dt.nameAtS s)) ∧ w' = w := by
  have H0 : Dt.nameAtS s = Dt.nameF 256 s 0 := rfl
  go_enter Try.func69, Try.ntmps69
  go_wp2
  go_loop [3] (fun v => ∃ i : Nat, i ≤ 400 ∧ v = .int .i64 i ∧ Dt.nameAtS s = Dt.nameF 256 s i) (fun v => 400 - (intOf v).toNat)
  case atStart => exact ⟨0, by omega, rfl, H0⟩
  case round =>
    obtain ⟨i, hi, rfl, hn⟩ := hrel
    clear H0
    by_cases h1 : i < s.size
    · have h1' : (i : Int) < (s.size : Int) := by omega
      by_cases h2 : i < 255
      · have h2' : (i : Int) < 255 := by omega
        have hc : (s[i].toNat : Int) < 256 := by have := s[i].toNat_lt; omega
        by_cases h3 : s[i].toNat = 0
        · have HN := Nm.hide (hn.trans (name_zero h1 h2 h3))
          have h3' : ((s[i].toNat : Int) == 0) = true := by rw [beq_iff_eq]; omega
          clear hn
          go_wp2
          go_ret
          rw [HN.out]
          exact ⟨rfl, rfl⟩
        · have h3' : ((s[i].toNat : Int) == 0) = false := by rw [beq_eq_false_iff_ne]; omega
          by_cases h4 : 63 < s[i].toNat
          · have HN := Nm.hide (hn.trans (name_big h1 h2 h4))
            have h4' : (63 : Int) < (s[i].toNat : Int) := by omega
            clear hn
            go_wp2
            go_ret
            rw [HN.out]
            exact ⟨rfl, rfl⟩
          · have HN := Nm.hide (hn.trans (name_step h1 h2 h3 (by omega)))
            have h4' : (s[i].toNat : Int) ≤ 63 := by omega
            clear hn
            go_wp2
            go_round
            case rel => exact ⟨i + s[i].toNat + 1, by omega, by go_num, HN.out⟩
            case measure => simp [intOf]; omega
      · have HN := Nm.hide (hn.trans (name_end (by omega)))
        have h2' : (255 : Int) ≤ (i : Int) := by omega
        clear hn
        go_wp2
        go_ret
        rw [HN.out]
        exact ⟨rfl, rfl⟩
    · have HN := Nm.hide (hn.trans (name_end (by omega)))
      have h1' : (s.size : Int) ≤ (i : Int) := by omega
      clear hn
      go_wp2
      go_ret
      rw [HN.out]
      exact ⟨rfl, rfl⟩
end Go.Proofs.Ytihhchebcojplaa
