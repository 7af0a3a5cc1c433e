import Derived.Test.YtkiadnglbjamfaaJPfU
import Derived.Test.YtkiadnglbjamfaaICheck
import Derived.Test.YtkiadnglbjamfaaIMapT
import Derived.Test.YtkiadnglbjamfaaJNameSz
import Derived.Test.YtkiadnglbjamfaaJSplit
import Derived.Test.YtkiadnglbjamfaaOwnT
import Derived.Test.YtkiadnglbjamfaaJPfM
/- impl.readLink by its contract. -/
namespace Go.Proofs.Ytkiadnglbjamfaa
open Go.RowKit
set_option linter.unusedVariables false

theorem wsum_ge : ∀ ls : List ByteArray, ls.length ≤ Nm.wsum ls := by
  intro ls
  induction ls with
  | nil => simp [Nm.wsum]
  | cons a t ih => simp only [Nm.wsum, List.length_cons]; omega
theorem split_few {s : ByteArray} {ls : List ByteArray} (h : Nm.split s = some ls) : Few ls := by
  have h1 := (Nm.split_join h).2
  have h2 := Nm.split_size h
  have h3 := wsum_ge ls
  exact ⟨fun y hy => by have := h1 y hy; omega, by omega⟩
theorem cut47 {d : ByteArray} (h : cutCode 47 d = 0) : (Dt.nameAtS d).size ≠ 0 ∧ d.size ≤ 65535 := by
  unfold cutCode at h
  split at h
  · cases h
  · split at h
    · cases h
    · split at h
      · rename_i hs
        refine ⟨?_, by omega⟩
        intro hz
        have e : Dt.implP 47 = [.nm, .mp] := by simp [Dt.implP]
        rw [e, Dt.spans_of_parts, Option.isSome_map, Dt.parts] at hs
        have e2 : Dt.sz .nm d = none := by show (if (Dt.nameAtS d).size = 0 then none else some (Dt.nameAtS d).size) = none; rw [if_pos hz]
        rw [e2] at hs
        simp at hs
      · cases h
/-- What readLink reads. -/
def readR (r : Rr) : Option Lk := match Nm.split r.own with
  | none => none
  | some ow => if cutCode 47 r.da = 0 then some ⟨ow, (Nm.split (Dt.nameAtS r.da)).getD [], tysOf (bitsOf r.da)⟩ else none

theorem rl_back {W : World} {b : Nat} {x0 x1 x2 : Value} {ok : Bool} {R : Ending → World → Prop} {a : Act} (h : Blk W b #[x0, x1, x2] 68)
    (h2 : a.tmps[2]? = some (.pointer (some ⟨b, 0, none⟩))) (h3 : a.tmps[3]? = some (.bool ok)) (hd : a.defers = [])
    (hR : R (.returned (.tuple #[.agg #[x0, x1, x2], .bool ok])) W) : bodyPost Try.prog Try.f37 R .ret a W := by
  refine bodyPost_ret ?_ hd hR
  have r := fun i => blk_cell h i
  simp [results, Try.results37, go_sem, Result.andThen, r, h2, h3]

theorem setAll_belowR {w : World} {B b : Nat} (hb : B ≤ b) : ∀ (vs : List Value) (i : Nat) (W : World), Below B w W → Below B w (setAll W b i vs) := by
  intro vs
  induction vs with
  | nil => intro i W h; exact h
  | cons v vs ih => intro i W h; exact ih (i + 1) _ (h.setCell hb _)

/-- What readLink answers. -/
def ReadL (w w' : World) (o : Option Lk) (e : Ending) : Prop := Below w.heap.size w w' ∧ match o with
  | none => e = .returned (.tuple #[.agg #[.slice none 0 0, .slice none 0 0, .slice none 0 0], .bool false])
  | some l => ∃ a b c, e = .returned (.tuple #[.agg #[a, b, c], .bool true]) ∧ LkV w' a b c l ∧ w'.ownsRow w.heap.size 9 1 a l.ow.length (l.ow.map Value.string) ∧ w'.ownsRow w.heap.size 9 1 b l.nx.length (l.nx.map Value.string) ∧ w'.ownsRow w.heap.size 2 1 c l.ty.length (intCells l.ty)

set_option maxRecDepth 100000 in
set_option maxHeartbeats 1600000 in
theorem readLink_any (r : Rr) (w : World) (zo : r.own.size ≤ maxLen) (zd : r.da.size ≤ 2000000) :
    Calls Try.prog 37 #[.agg #[.string r.own, .int .i64 r.ty, .int .i64 r.cl, .int .i64 r.tt, .string r.da]] w fun e w' => ReadL w w' (readR r) e := by
  have e1 : (w.alloc (.cells #[.string r.own, .int .i64 r.ty, .int .i64 r.cl, .int .i64 r.tt, .string r.da] 35)).heap.size = w.heap.size + 1 := by simp
  have hB0 := (Below.refl w.heap.size w).alloc (Nat.le_refl _) (.cells #[.string r.own, .int .i64 r.ty, .int .i64 r.cl, .int .i64 r.tt, .string r.da] 35)
  have hB := hB0.alloc hB0.size (.cells #[.slice none 0 0, .slice none 0 0, .slice none 0 0] 68)
  have k1 := blk_alloc (blk_new w #[.string r.own, .int .i64 r.ty, .int .i64 r.cl, .int .i64 r.tt, .string r.da] 35) (.cells #[.slice none 0 0, .slice none 0 0, .slice none 0 0] 68)
  have k2 := blk_new (w.alloc (.cells #[.string r.own, .int .i64 r.ty, .int .i64 r.cl, .int .i64 r.tt, .string r.da] 35)) #[.slice none 0 0, .slice none 0 0, .slice none 0 0] 68
  rw [e1] at k2
  have hsp := fun W => splitName_any r.own W zo
  have hck := fun W => implCheckData_any 47 r.da W zd
  have hns := fun W => nameSize_any r.da W
  have hle := Dt.name_le r.da
  have hsn := fun W => splitName_any (Dt.nameAtS r.da) W (by unfold maxLen; omega)
  have hmt := fun W => implMapTypes_any (bitsOf r.da) W (by rw [bitsOf]; simp; omega)
  clear e1 hB0
  go_enter Try.func37, Try.ntmps37
  go_wp2_with fail
  refine (hsp _).mono ?_
  rintro e w1 ⟨v1, rfl, ho1, b1⟩
  replace ho1 := own_base ho1 (show w.heap.size + 2 ≤ _ by simp)
  have HZ := Nm.hide (show w.heap.size + 2 ≤ w1.heap.size from Nat.le_trans (by simp) b1.size)
  replace k1 := blk_below k1 b1
  replace k2 := blk_below k2 b1
  have ho1 := ho1
  have hB1 := Nm.below_two hB b1
  have hbs := hB.size
  clear hB
  have hB := hB1
  clear hB1
  obtain ⟨a1, c1, rfl⟩ := own_sl ho1
  have r1 := fun i => blk_cell k1 i
  clear hsp b1
  cases hq : Nm.split r.own with
  | none =>
    rw [hq] at ho1
    have HV := Nm.hide (show readR r = none by rw [readR, hq])
    clear hq ho1
    have r2 := fun i => blk_cell k2 i
    have f2 := fun i => blk_frozen k2 i
    have X := Nm.hide (And.intro (setAll_new [.slice none 0 0, .slice none 0 0, .slice none 0 0] k2 rfl) (setAll_belowR (Nat.le_succ w.heap.size) [.slice none 0 0, .slice none 0 0, .slice none 0 0] 0 _ hB))
    simp only [setAll, Nat.reduceAdd, Nat.zero_add, Nat.succ_eq_add_one] at X
    clear k2
    go_wp2
    refine rl_back X.out.1 rfl rfl rfl ?_
    rw [HV.out]
    exact ⟨X.out.2, rfl⟩
  | some ow =>
    rw [hq] at ho1
    simp only [Option.getD_some] at ho1
    go_wp2_with fail
    refine (hck _).mono ?_
    rintro e w2 ⟨rfl, b2⟩
    replace k1 := blk_below k1 b2
    replace k2 := blk_below k2 b2
    replace hB := Nm.below_two hB b2
    replace ho1 := own_below ho1 b2
    have HZ := Nm.hide (Nat.le_trans HZ.out b2.size)
    have r1 := fun i => blk_cell k1 i
    clear hck b2
    by_cases hc : cutCode 47 r.da = 0
    · obtain ⟨hn0, hdz⟩ := cut47 hc
      obtain ⟨nx, hnx⟩ := Option.isSome_iff_exists.1 (Dt.nameAt_name hn0)
      have HV := Nm.hide (show readR r = some ⟨ow, nx, tysOf (bitsOf r.da)⟩ by rw [readR, hq]; simp only; rw [if_pos hc, hnx]; rfl)
      have hszv : szV (Dt.sz .nm r.da) = .tuple #[.int .i64 ((Dt.nameAtS r.da).size : Int), .bool true] := by
        have : Dt.sz .nm r.da = some (Dt.nameAtS r.da).size := by show (if (Dt.nameAtS r.da).size = 0 then none else some (Dt.nameAtS r.da).size) = _; rw [if_neg hn0]
        rw [this]; rfl
      have hex := Dt.name_ext r.da hn0
      have hfo := split_few hq
      have hfn := split_few hnx
      rw [hszv] at hns
      simp only [hnx] at hsn
      rw [hc]
      have HB2 : bitsOf r.da = r.da.extract (Dt.nameAtS r.da).size r.da.size := rfl
      have hi0 : (0 : Int) ≤ ((Dt.nameAtS r.da).size : Int) := by omega
      have hi1 : ((Dt.nameAtS r.da).size : Int) ≤ (r.da.size : Int) := by omega
      rw [HB2] at hmt HV
      rw [tysOf] at HV
      clear hc hnx hq hszv HB2 hn0
      generalize mapL (mapS (r.da.extract (Dt.nameAtS r.da).size r.da.size)) (typesOf (blocksS (r.da.extract (Dt.nameAtS r.da).size r.da.size))) = tys at *
      generalize mapC (mapS (r.da.extract (Dt.nameAtS r.da).size r.da.size)) = mc at *
      generalize Dt.nameAtS r.da = nn at *
      go_wp2_with fail
      refine (hns _).mono ?_
      rintro e w3 ⟨rfl, rfl⟩
      go_wp2_with fail
      refine (hsn _).mono ?_
      rintro e w4 ⟨v4, rfl, ho4, b4⟩
      simp only [Option.getD_some] at ho4
      replace k1 := blk_below k1 b4
      replace k2 := blk_below k2 b4
      have hz3 : w.heap.size + 2 ≤ w3.heap.size := HZ.out
      replace ho1 := own_below ho1 b4
      replace ho4 := own_base ho4 hz3
      replace hB := Nm.below_two hB b4
      have hz4 : w.heap.size + 2 ≤ w4.heap.size := Nat.le_trans hz3 b4.size
      obtain ⟨a4, c4, rfl⟩ := own_sl ho4
      have r1 := fun i => blk_cell k1 i
      clear b4 hsn hns
      go_wp2_with fail
      refine (hmt _).mono ?_
      rintro e w5 ⟨v5, rfl, ho5, b5⟩
      replace k1 := blk_below k1 b5
      replace k2 := blk_below k2 b5
      replace ho1 := own_below ho1 b5
      replace ho4 := own_below ho4 b5
      replace ho5 := own_base ho5 hz4
      replace hB := Nm.below_two hB b5
      obtain ⟨a5, c5, rfl⟩ := own_sl ho5
      have r2 := fun i => blk_cell k2 i
      have f2 := fun i => blk_frozen k2 i
      have hlt : w.heap.size + 1 < w.heap.size + 2 := by omega
      have X := Nm.hide (And.intro (setAll_new [.slice a1 ow.length c1, .slice a4 nx.length c4, .slice a5 tys.length c5] k2 rfl) (And.intro (setAll_belowR (Nat.le_succ w.heap.size) [.slice a1 ow.length c1, .slice a4 nx.length c4, .slice a5 tys.length c5] 0 _ hB) (And.intro (own_far_lt (i := 2) (y := .slice a5 tys.length c5) (own_far_lt (i := 1) (y := .slice a4 nx.length c4) (own_far_lt (i := 0) (y := .slice a1 ow.length c1) ho1 hlt) hlt) hlt) (And.intro (own_far_lt (i := 2) (y := .slice a5 tys.length c5) (own_far_lt (i := 1) (y := .slice a4 nx.length c4) (own_far_lt (i := 0) (y := .slice a1 ow.length c1) ho4 hlt) hlt) hlt) (own_far_lt (i := 2) (y := .slice a5 tys.length c5) (own_far_lt (i := 1) (y := .slice a4 nx.length c4) (own_far_lt (i := 0) (y := .slice a1 ow.length c1) ho5 hlt) hlt) hlt)))))
      simp only [setAll, Nat.reduceAdd, Nat.zero_add, Nat.succ_eq_add_one] at X
      clear k2 k1 ho1 ho4 ho5 hmt b5 hlt
      go_wp2
      refine rl_back X.out.1 rfl rfl rfl ?_
      rw [HV.out]
      obtain ⟨X1, X2, X3, X4, X5⟩ := X.out
      exact ⟨X2, _, _, _, rfl, ⟨Nm.SRow.of_owns X3, Nm.SRow.of_owns X4, CRow.of_owns X5, hfo, hfn⟩, own_base X3 (by omega), own_base X4 (by omega), own_base X5 (by omega)⟩
    · have HV := Nm.hide (show readR r = none by rw [readR, hq]; simp only; rw [if_neg hc])
      have hc' : (cutCode 47 r.da != 0) = true := by simp [hc]
      clear hq ho1 hc
      generalize cutCode 47 r.da = C at *
      have r2 := fun i => blk_cell k2 i
      have f2 := fun i => blk_frozen k2 i
      have X := Nm.hide (And.intro (setAll_new [.slice none 0 0, .slice none 0 0, .slice none 0 0] k2 rfl) (setAll_belowR (Nat.le_succ w.heap.size) [.slice none 0 0, .slice none 0 0, .slice none 0 0] 0 _ hB))
      simp only [setAll, Nat.reduceAdd, Nat.zero_add, Nat.succ_eq_add_one] at X
      clear k2
      go_wp2
      refine rl_back X.out.1 rfl rfl rfl ?_
      rw [HV.out]
      exact ⟨X.out.2, rfl⟩
end Go.Proofs.Ytkiadnglbjamfaa
/- Which records of a proof are good: mathematics. -/
namespace Go.Proofs.Ytkiadnglbjamfaa
open Go.RowKit
set_option linter.unusedVariables false

def openO (ax : List ByteArray) (rs : List Rr) : Option (List Lk) := if rs.length ≤ 20 then openL ax rs else none
def oneB (q : Int) : Bool := decide (0 < q ∧ q ≤ 65535 ∧ q ≠ 255)

theorem take_more {rs : List Rr} {k : Nat} {r : Rr} (h : rs[k]? = some r) : rs.take (k + 1) = rs.take k ++ [r] := by
  rw [List.take_add_one, h]; rfl
theorem open_step {ax : List ByteArray} {rs : List Rr} {k : Nat} {r : Rr} {ls : List Lk} {l : Lk} (h : openL ax (rs.take k) = some ls) (hr : rs[k]? = some r) (hg : goodR ax r = some l) : openL ax (rs.take (k + 1)) = some (ls ++ [l]) := by
  rw [take_more hr, openL_snoc ax _ _ _ h, hg]; rfl
theorem open_fail {ax : List ByteArray} {rs : List Rr} {k : Nat} {r : Rr} {ls : List Lk} (h : openL ax (rs.take k) = some ls) (hr : rs[k]? = some r) (hg : goodR ax r = none) : openL ax rs = none := by
  have h1 : openL ax (rs.take (k + 1)) = none := by rw [take_more hr, openL_snoc ax _ _ _ h, hg]; rfl
  have := openL_bad ax _ (rs.drop (k + 1)) h1
  rwa [List.take_append_drop] at this

theorem rvVs_atP : ∀ (xs : List Rr) (k j : Nat) (x : Rr), xs[k]? = some x → j < 5 → (rvVs xs)[k * 5 + j]? = (rvV x)[j]? := by
  intro xs
  induction xs with
  | nil => intro k j x h; simp at h
  | cons y xs ih =>
    intro k j x h hj
    have e : rvVs (y :: xs) = rvV y ++ rvVs xs := rvVs_cons y xs
    have hl : (rvV y).length = 5 := rfl
    cases k with
    | zero =>
      simp at h; subst h
      rw [e, Nat.zero_mul, Nat.zero_add, List.getElem?_append_left (by omega)]
    | succ k =>
      simp at h
      rw [e, List.getElem?_append_right (by omega), hl, show (k + 1) * 5 + j - 5 = k * 5 + j by omega]
      exact ih k j x h hj

theorem proof_left {a b : ByteArray} {q : Int} {rs : List Rr} (h : Nm.split a = none) : proofS a b q rs = 0 := by rw [proofS, h]
theorem proof_right {a b : ByteArray} {q : Int} {rs : List Rr} (h : Nm.split b = none) : proofS a b q rs = 0 := by
  rw [proofS, h]
  cases Nm.split a <;> rfl
theorem proof_out {a b : ByteArray} {q : Int} {rs : List Rr} {ax x : List ByteArray} (ha : Nm.split a = some ax) (hb : Nm.split b = some x) (h : (underB x ax && oneB q) = false) : proofS a b q rs = 0 := by
  rw [proofS, ha, hb]
  simp only
  rw [if_neg]
  intro hc
  simp only [Bool.and_eq_true] at hc
  have : (underB x ax && oneB q) = true := by rw [hc.1.1]; exact hc.1.2
  rw [h] at this
  cases this
theorem proof_in {a b : ByteArray} {q : Int} {rs : List Rr} {ax x : List ByteArray} (ha : Nm.split a = some ax) (hb : Nm.split b = some x) (h1 : underB x ax = true) (h2 : oneB q = true) : proofS a b q rs = match openO ax rs with
    | some ls => checkC ls x q
    | none => 0 := by
  rw [proofS, ha, hb]
  simp only
  rw [openO]
  by_cases hl : rs.length ≤ 20
  · have h2' : decide (0 < q ∧ q ≤ 65535 ∧ q ≠ 255) = true := h2
    have hcond : (underB x ax && decide (0 < q ∧ q ≤ 65535 ∧ q ≠ 255) && decide (rs.length ≤ 20)) = true := by rw [h1, h2', decide_eq_true hl]; rfl
    rw [if_pos hl, if_pos hcond]
    cases openL ax rs <;> rfl
  · rw [if_neg hl, if_neg]
    simp [hl]
theorem openO_len {ax : List ByteArray} {rs : List Rr} {ls : List Lk} (h : openO ax rs = some ls) : ls.length ≤ 20 := by
  rw [openO] at h
  split at h
  · have := openL_len ax _ _ h; omega
  · cases h


theorem good_ty {ax : List ByteArray} {r : Rr} (h : r.ty ≠ 47) : goodR ax r = none := by rw [goodR, if_neg (fun e => h e.1)]
theorem good_cl {ax : List ByteArray} {r : Rr} (h : r.cl ≠ 1) : goodR ax r = none := by rw [goodR, if_neg (fun e => h e.2.1)]
theorem good_cc {ax : List ByteArray} {r : Rr} (h : cutCode 47 r.da ≠ 0) : goodR ax r = none := by rw [goodR, if_neg (fun e => h e.2.2)]
theorem good_no1 {ax : List ByteArray} {a : ByteArray} {r : Rr} (ha : Nm.split a = some ax) (h : isUnderS r.own a = false) : goodR ax r = none := by
  rw [goodR]
  split
  · cases ho : Nm.split r.own with
    | none => simp
    | some ow =>
      rw [isUnder_some ho ha] at h
      cases hn : Nm.split (Dt.nameAtS r.da) with
      | none => simp
      | some nx => simp [h]
  · rfl
theorem good_no2 {ax : List ByteArray} {a : ByteArray} {r : Rr} (ha : Nm.split a = some ax) (h : isUnderS (Dt.nameAtS r.da) a = false) : goodR ax r = none := by
  rw [goodR]
  split
  · cases ho : Nm.split r.own with
    | none => simp
    | some ow =>
      cases hn : Nm.split (Dt.nameAtS r.da) with
      | none => simp
      | some nx => rw [isUnder_some hn ha] at h; simp [h]
  · rfl
theorem good_yes {ax : List ByteArray} {a : ByteArray} {r : Rr} (ha : Nm.split a = some ax) (h1 : r.ty = 47) (h2 : r.cl = 1) (h3 : cutCode 47 r.da = 0) (h4 : isUnderS r.own a = true) (h5 : isUnderS (Dt.nameAtS r.da) a = true) : ∃ l, goodR ax r = some l := by
  rw [goodR, if_pos ⟨h1, h2, h3⟩]
  cases ho : Nm.split r.own with
  | none => rw [isUnder_left ho] at h4; cases h4
  | some ow =>
    cases hn : Nm.split (Dt.nameAtS r.da) with
    | none => rw [isUnder_left hn] at h5; cases h5
    | some nx =>
      rw [isUnder_some ho ha] at h4
      rw [isUnder_some hn ha] at h5
      exact ⟨_, by simp [h4, h5]; rfl⟩
theorem under_nil (x : List ByteArray) : underB x [] = true := by
  simp [underB, Nm.cmpLs, Nm.cmpRev]
theorem near_stop {l : Lk} {x : List ByteArray} (h : (underB l.ow x || underB l.nx x) = true) : nearB l x = x := by
  cases x with
  | nil => rfl
  | cons a t => rw [nearB, if_pos h]
theorem near_go {l : Lk} {x : List ByteArray} (h : (underB l.ow x || underB l.nx x) = false) : nearB l x = nearB l (x.drop 1) ∧ 0 < x.length := by
  cases x with
  | nil => rw [under_nil] at h; cases h
  | cons a t => rw [nearB, h]; simp
theorem cmp_nil (a : List ByteArray) : 0 ≤ Nm.cmpLs a [] := by
  unfold Nm.cmpLs
  rw [List.reverse_nil]
  cases a.reverse <;> simp [Nm.cmpRev]
theorem cov_pos {l : Lk} {x : List ByteArray} (h : covB l x = true) : 0 < x.length := by
  rcases Nat.eq_zero_or_pos x.length with hz | hp
  · have : x = [] := List.eq_nil_of_length_eq_zero hz
    subst this
    have := cmp_nil l.ow
    simp [covB] at h
    omega
  · exact hp
theorem pick_cov_pos {ls : List Lk} {x : List ByteArray} {l : Lk} (h : pickB ls x covB = some l) : 0 < x.length := by
  have := List.find?_some h
  simp only [Bool.and_eq_true] at this
  exact cov_pos this.2
theorem says_two {ls : List Lk} {x : List ByteArray} {q : Int} (h : saysC ls x q = 2) : ∃ l, pickB ls x covB = some l := by
  unfold saysC at h
  split at h
  · split at h <;> cases h
  · split at h
    · cases h
    · rename_i c hc
      exact ⟨c, hc⟩
end Go.Proofs.Ytkiadnglbjamfaa
