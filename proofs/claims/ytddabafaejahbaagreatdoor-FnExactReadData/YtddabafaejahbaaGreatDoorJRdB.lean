import Derived.Test.YtddabafaejahbaaGreatDoorJRc7
import Derived.Test.YtddabafaejahbaaGreatDoorJRv3
import Derived.Laws.EntriesVeiled
/- ReadData as mathematics: the program's forms and the model's script. -/
namespace Go.Proofs.YtddabafaejahbaaGreatDoor
open Go.RowKit
set_option linter.unusedVariables false

/-- What a form reads. -/
def formP (F : List Nat ⊕ Bool) (ws : List Wrd) (o : ByteArray) : ByteArray × Int := match F with
  | .inl ks => justR ks ws o
  | .inr false => manyR ws o
  | .inr true => ntR ws o
/-- No more than 65535 bytes. -/
def capD (p : ByteArray × Int) : ByteArray × Int := if p.2 ≠ 0 then (⟨#[]⟩, p.2) else if 65535 < p.1.size then (⟨#[]⟩, 7) else (p.1, 0)
theorem out_nil : outTo (memB []) 256 = [] := by decide +kernel
theorem map_nil : mapR [] = (⟨#[]⟩, 0) := by
  have h : okT [] = true := rfl
  rw [mapR, if_pos h, out_nil]
theorem map_size (l : List Int) : (mapR l).1.size ≤ 10000000 := by
  unfold mapR
  split
  · show (outTo (memB l) 256).toArray.size ≤ _
    have := outTo_len (memB l) 256
    simp
    omega
  · exact Nat.zero_le _
theorem mnN_rng : ∀ k, k < 19 → 0 ≤ mnN k ∧ mnN k ≤ 65535 := by decide
theorem cat_nil (b : ByteArray) : b ++ (⟨#[]⟩ : ByteArray) = b := by
  apply ByteArray.ext
  simp [ByteArray.data_append]
theorem capD_bad {c : Int} (h : c ≠ 0) : capD (⟨#[]⟩, c) = (⟨#[]⟩, c) := by rw [capD, if_pos h]
theorem capD_ok (b : ByteArray) : capD (b, 0) = if 65535 < b.size then (⟨#[]⟩, 7) else (b, 0) := by rw [capD, if_neg (by simp)]
/-- A script's words, one behind the other, are those of a form. -/
theorem each_rd (s o : ByteArray) : ∀ (ks : List Nat) (ws : List Wrd) (i : Nat) (b : ByteArray), ks.length = ws.length → (∀ j K, ks[j]? = some K → kindAt s (i + j) ≠ 109 ∧ ∀ x, readWd (kindAt s (i + j)) x o = readWd (kc K) x o) →
    rdE (rdF s o i ws b []) = capD (eachS o ks ws b) := by
  intro ks
  induction ks with
  | nil =>
    intro ws i b hl _
    cases ws with
    | nil => rw [rdF, rdE, each_nil, capD_ok, map_nil, cat_nil]
    | cons x ws => simp at hl
  | cons K ks ih =>
    intro ws i b hl hk
    cases ws with
    | nil => simp at hl
    | cons x ws =>
      obtain ⟨h1, h2⟩ := hk 0 K rfl
      rw [Nat.add_zero] at h1 h2
      rw [rdF, if_neg h1, h2]
      by_cases h0 : (readWd (kc K) x o).2 = 0
      · rw [if_neg (by simpa using h0), each_ok h0]
        refine ih ws (i + 1) _ (by simpa using hl) (fun j K' hj => ?_)
        have := hk (j + 1) K' (by simpa using hj)
        rw [show i + 1 + j = i + (j + 1) by omega]
        exact this
      · rw [if_pos h0, each_bad h0, rdE, capD_bad h0]
theorem rd_rng (x : ByteArray) (h : (readTyS x).2 = 0) : 0 ≤ (readTyS x).1 ∧ (readTyS x).1 ≤ 65535 := by
  unfold readTyS at h ⊢
  cases hf : tyFind x with
  | some k =>
    have hk := List.mem_of_find?_eq_some hf
    exact mnN_rng k (List.mem_range.1 hk)
  | none =>
    rw [hf] at h
    simp only at h ⊢
    unfold tyTail at h ⊢
    split
    · rename_i h4
      rw [if_pos h4] at h
      cases hn : numO (x.extract 4 x.size) 5 with
      | none => rw [hn] at h; simp at h
      | some n =>
        rw [hn] at h
        simp only at h ⊢
        split
        · simp only; omega
        · rename_i h6; rw [if_neg h6] at h; simp at h
    · rename_i h4; rw [if_neg h4] at h; simp at h
theorem tys_rd (s o : ByteArray) : ∀ (ws : List Wrd) (i : Nat) (b : ByteArray) (ts : List Int), (∀ j, kindAt s (i + j) = 109) → rdF s o i ws b ts = (tysR ws ts).map (fun l => (b, l)) := by
  intro ws
  induction ws with
  | nil => intro i b ts _; rfl
  | cons x ws ih =>
    intro i b ts hk
    have h0 := hk 0
    rw [Nat.add_zero] at h0
    rw [rdF, if_pos h0, tysR]
    by_cases hq : x.2 = true
    · rw [if_pos hq, if_pos hq]; rfl
    · rw [if_neg hq, if_neg hq]
      by_cases hc : (readTyS x.1).2 ≠ 0
      · rw [if_pos hc, if_pos hc]; rfl
      · rw [if_neg hc, if_neg hc]
        refine ih (i + 1) b _ (fun j => ?_)
        have := hk (j + 1)
        rw [show i + 1 + j = i + (j + 1) by omega]
        exact this
theorem tys_good : ∀ (ws : List Wrd) (ts l : List Int), (∀ t ∈ ts, 0 ≤ t ∧ t ≤ 65535) → tysR ws ts = .ok l → ∀ t ∈ l, 0 ≤ t ∧ t ≤ 65535 := by
  intro ws
  induction ws with
  | nil => intro ts l h e; rw [tysR] at e; cases e; exact h
  | cons x ws ih =>
    intro ts l h e
    rw [tysR] at e
    split at e
    · cases e
    · split at e
      · cases e
      · rename_i hc
        refine ih _ l ?_ e
        intro t ht
        rcases List.mem_append.1 ht with ht | ht
        · exact h t ht
        · rw [List.mem_singleton] at ht
          rw [ht]
          exact rd_rng _ (by simpa using hc)
theorem tys_err : ∀ (ws : List Wrd) (ts : List Int) (c : Int), tysR ws ts = .error c → c ≠ 0 := by
  intro ws
  induction ws with
  | nil => intro ts c e; rw [tysR] at e; cases e
  | cons x ws ih =>
    intro ts c e
    rw [tysR] at e
    split at e
    · cases e; decide
    · split at e
      · rename_i hc; cases e; exact hc
      · exact ih _ c e
theorem nt_rd (s o : ByteArray) (ws : List Wrd) (h0 : kindAt s 0 = 110) (h1 : ∀ j, kindAt s (1 + j) = 109) (hw : ws ≠ []) : rdE (rdF s o 0 ws ⟨#[]⟩ []) = capD (ntR ws o) := by
  cases ws with
  | nil => exact absurd rfl hw
  | cons x r =>
    rw [rdF, if_neg (by rw [h0]; decide), h0, ntR]
    by_cases hc : (readWd 110 x o).2 = 0
    · rw [if_neg (by simpa using hc), if_neg (by simpa using hc), tys_rd s o r (0 + 1) _ _ (by simpa using h1)]
      have hb : ((⟨#[]⟩ : ByteArray) ++ (readWd 110 x o).1) = (readWd 110 x o).1 := by
        apply ByteArray.ext
        simp [ByteArray.data_append]
      rw [hb]
      cases ht : tysR r [] with
      | error c =>
        have hc0 := tys_err r [] c ht
        rw [tysE, if_pos hc0, capD_bad hc0]
        rfl
      | ok l =>
        have hg := tys_good r [] l (fun t ht => by cases ht) ht
        have h2 : (mapR l).2 = 0 := by rw [mapR_good hg]
        rw [tysE, if_neg (by simpa using h2), capD_ok]
        rfl
    · rw [if_pos hc, if_pos hc, rdE, capD_bad hc]
/-- A form's kinds are its script. -/
def fits (s : ByteArray) (ks : List Nat) : Bool := decide (0 < s.size) && decide (s.size = ks.length) && decide (kindAt s (s.size - 1) ≠ 109) && decide (kindAt s (s.size - 1) ≠ 115) && (List.range ks.length).all fun j => decide (kindAt s j ≠ 109) && decide (kindAt s j = kc (ks.getD j 0))
theorem kindAt_lt {s : ByteArray} {i : Nat} (h : i < s.size) : kindAt s i = s[i] := by rw [kindAt, dif_pos h]
theorem form_just {t : Int} {ks : List Nat} {ws : List Wrd} {o : ByteArray} (h : fits (scriptS t) ks = true) : formD t ws o = capD (justR ks ws o) := by
  simp only [fits, Bool.and_eq_true, decide_eq_true_eq, List.all_eq_true, List.mem_range] at h
  obtain ⟨⟨⟨⟨h1, h2⟩, h3⟩, h4⟩, h5⟩ := h
  have hm : manyB (scriptS t) ws.length = decide (ws.length = ks.length) := by
    rw [kindAt_lt (by omega)] at h3 h4
    rw [manyB, dif_pos h1, if_neg h3, if_neg h4, h2]
  rw [formD, hm, justR]
  by_cases hn : ws.length = ks.length
  · rw [if_neg (by
      rintro (h | h)
      · omega
      · have := of_decide_eq_false h
        exact this hn), if_neg (by simpa using hn)]
    refine each_rd _ o ks ws 0 _ hn.symm (fun j K hj => ?_)
    have hj2 := List.getElem?_eq_some_iff.1 hj
    obtain ⟨q1, q2⟩ := h5 j hj2.1
    rw [Nat.zero_add]
    have hK : ks.getD j 0 = K := by rw [List.getD_eq_getElem?_getD, hj]; rfl
    rw [hK] at q2
    exact ⟨q1, fun x => by rw [q2]⟩
  · rw [if_pos (by simp [hn]), if_pos hn, capD_bad (by decide)]
theorem wd_115 (x : Wrd) (o : ByteArray) : readWd 115 x o = readWd (kc 1) x o := by
  show readWd 115 x o = readWd 116 x o
  have h1 : isTx 115 = true := rfl
  have h2 : isTx 116 = true := rfl
  rw [readWd, if_pos h1, readWd, if_pos h2]
  unfold readTx
  rw [if_neg (show ¬ (115 : UInt8) = 118 by decide), if_neg (show ¬ (116 : UInt8) = 118 by decide)]
theorem form_many (ws : List Wrd) (o : ByteArray) : formD 16 ws o = capD (manyR ws o) := by
  have hs : scriptS 16 = ⟨#[115]⟩ := rfl
  have hk : ∀ i, kindAt ⟨#[115]⟩ i = 115 := by
    intro i
    unfold kindAt
    split
    · rename_i h
      have : i = 0 := by have h2 : i < 1 := h; omega
      subst this
      rfl
    · rfl
  have hm : manyB ⟨#[115]⟩ ws.length = decide (1 ≤ ws.length) := rfl
  rw [formD, hs, hm, manyR]
  by_cases hn : ws.length = 0
  · rw [if_pos (by simp [hn]), if_pos hn, capD_bad (by decide)]
  · rw [if_neg, if_neg hn]
    · refine each_rd _ o (List.replicate ws.length 1) ws 0 _ (by simp) (fun j K hj => ?_)
      have hj2 := List.getElem?_eq_some_iff.1 hj
      have hK : K = 1 := by rw [← hj2.2, List.getElem_replicate]
      rw [hk, hK]
      exact ⟨by decide, fun x => wd_115 x o⟩
    · rintro (h | h)
      · cases h
      · have := of_decide_eq_false h; omega
theorem form_nt (ws : List Wrd) (o : ByteArray) : formD 47 ws o = capD (ntR ws o) := by
  have hs : scriptS 47 = ⟨#[110, 109]⟩ := rfl
  have hk : ∀ i, kindAt ⟨#[110, 109]⟩ (1 + i) = 109 := by
    intro i
    unfold kindAt
    split
    · rename_i h
      have : i = 0 := by have h2 : 1 + i < 2 := h; omega
      subst this
      rfl
    · rfl
  have hm : manyB ⟨#[110, 109]⟩ ws.length = decide (1 ≤ ws.length) := rfl
  rw [formD, hs, hm]
  cases ws with
  | nil => rw [if_pos (by simp), ntR, capD_bad (by decide)]
  | cons x r =>
    rw [if_neg]
    · exact nt_rd _ o (x :: r) rfl hk (by simp)
    · rintro (h | h)
      · cases h
      · simp at h
/-- The form of a type reads what its script reads. -/
theorem form_eq {t : Int} {F : List Nat ⊕ Bool} {ws : List Wrd} {o : ByteArray} (h : (t, F) ∈ formTabR) : formD t ws o = capD (formP F ws o) := by
  simp only [formTabR, List.mem_cons, Prod.mk.injEq, List.not_mem_nil, or_false] at h
  rcases h with ⟨rfl, rfl⟩ | ⟨rfl, rfl⟩ | ⟨rfl, rfl⟩ | ⟨rfl, rfl⟩ | ⟨rfl, rfl⟩ | ⟨rfl, rfl⟩ | ⟨rfl, rfl⟩ | ⟨rfl, rfl⟩ | ⟨rfl, rfl⟩ | ⟨rfl, rfl⟩ | ⟨rfl, rfl⟩ | ⟨rfl, rfl⟩ | ⟨rfl, rfl⟩ | ⟨rfl, rfl⟩
  all_goals first
    | exact form_just (by decide)
    | exact form_many ws o
    | exact form_nt ws o
theorem form_none {t : Int} {ws : List Wrd} {o : ByteArray} (h : ∀ F, (t, F) ∉ formTabR) : formD t ws o = (⟨#[]⟩, 15) := by
  have hs : scriptS t = ⟨#[]⟩ := by
    have g : ∀ k F, (k, F) ∈ formTabR → t ≠ k := by
      rintro k F hk rfl
      exact h F hk
    have n1 := g 1 _ (List.mem_of_getElem? (i := 0) rfl)
    have n2 := g 28 _ (List.mem_of_getElem? (i := 1) rfl)
    have n3 := g 2 _ (List.mem_of_getElem? (i := 2) rfl)
    have n4 := g 5 _ (List.mem_of_getElem? (i := 3) rfl)
    have n5 := g 12 _ (List.mem_of_getElem? (i := 4) rfl)
    have n6 := g 39 _ (List.mem_of_getElem? (i := 5) rfl)
    have n7 := g 15 _ (List.mem_of_getElem? (i := 6) rfl)
    have n8 := g 6 _ (List.mem_of_getElem? (i := 7) rfl)
    have n9 := g 33 _ (List.mem_of_getElem? (i := 8) rfl)
    have n10 := g 16 _ (List.mem_of_getElem? (i := 9) rfl)
    have n11 := g 13 _ (List.mem_of_getElem? (i := 10) rfl)
    have n12 := g 35 _ (List.mem_of_getElem? (i := 11) rfl)
    have n13 := g 257 _ (List.mem_of_getElem? (i := 12) rfl)
    have n14 := g 47 _ (List.mem_of_getElem? (i := 13) rfl)
    unfold scriptS
    simp only [n1, n2, n3, n4, n5, n6, n7, n8, n9, n10, n11, n12, n13, n14, or_self, if_false]
  rw [formD, hs, if_pos (.inl rfl)]
/-- The kinds of a form are kinds. -/
theorem form_kinds {t : Int} {ks : List Nat} (h : (t, .inl ks) ∈ formTabR) : ∀ K ∈ ks, kindOK K := by
  simp only [formTabR, List.mem_cons, Prod.mk.injEq, List.not_mem_nil, or_false, Sum.inl.injEq] at h
  have key : ∀ l : List Nat, (l.all fun K => decide (K ≤ 6) || decide (K = 8) || decide (K = 9) || decide (K = 11)) = true → ∀ K ∈ l, kindOK K := by
    intro l hl K hK
    have := List.all_eq_true.1 hl K hK
    simp at this
    unfold kindOK
    omega
  rcases h with ⟨rfl, rfl⟩ | ⟨rfl, rfl⟩ | ⟨rfl, rfl⟩ | ⟨rfl, rfl⟩ | ⟨rfl, rfl⟩ | ⟨rfl, rfl⟩ | ⟨rfl, rfl⟩ | ⟨rfl, rfl⟩ | ⟨rfl, rfl⟩ | ⟨_, h⟩ | ⟨rfl, rfl⟩ | ⟨rfl, rfl⟩ | ⟨rfl, rfl⟩ | ⟨_, h⟩
  all_goals first
    | (cases h; done)
    | exact key _ (by decide)
end Go.Proofs.YtddabafaejahbaaGreatDoor
/- The operations of textForms' map literal, each by itself. -/
namespace Go.Proofs.YtddabafaejahbaaGreatDoor
open Go.RowKit
set_option linter.unusedVariables false

section
variable {o : Oper} {a : Act} {w : World} {K : Act → World → Prop} {Q : Exit → Act → World → Prop}

theorem op_load {t j b : Nat} {g F : Fn} {x y u : Array Value} (hop : o.op = .load 113 (.tmp t)) (hd : o.dst = some j) (ht : a.tmps[t]? = some (.pointer (some ⟨b, 0, none⟩)))
    (h0 : w.cell? ⟨b, 0, none⟩ = some (.func g x y)) (h1 : w.cell? ⟨b, 1, none⟩ = some (.func F #[] u)) (hK : K (a.put (some j) (.agg #[.func g x y, .func F #[] u])) w) : Oper.wp Tryz.prog o a w K Q := by
  have ht2 : a.tmps.getD t undef = .pointer (some ⟨b, 0, none⟩) := by rw [Array.getD_eq_getD_getElem?, ht]; rfl
  obtain ⟨dst, op, ty, pos, after, guard⟩ := o
  simp only at hop hd
  subst hop hd
  unfold Oper.wp execOp
  simp [go_sem, ht2, h0, h1, Result.andThen]
  exact hK

set_option maxRecDepth 100000 in
theorem op_slice1 {j s0 : Nat} {g0 F0 : Fn} {x0 y0 u0 : Array Value} (hop : o.op = .buildSlice 155 1 #[(0, .tmp s0)]) (hd : o.dst = some j) (h0 : a.tmps[s0]? = some (.agg #[.func g0 x0 y0, .func F0 #[] u0]))
    (hK : K (a.put (some j) (.slice (some ⟨w.heap.size, 0, none⟩) 1 1)) (w.alloc (.cells #[.func g0 x0 y0, .func F0 #[] u0] 113))) : Oper.wp Tryz.prog o a w K Q := by

  obtain ⟨dst, op, ty, pos, after, guard⟩ := o
  simp only at hop hd
  subst hop hd
  unfold Oper.wp execOp
  simp [go_sem, h0, Result.andThen]
  exact hK

set_option maxRecDepth 100000 in
theorem op_slice2 {j s0 s1 : Nat} {g0 F0 g1 F1 : Fn} {x0 y0 u0 x1 y1 u1 : Array Value} (hop : o.op = .buildSlice 155 2 #[(0, .tmp s0), (1, .tmp s1)]) (hd : o.dst = some j) (h0 : a.tmps[s0]? = some (.agg #[.func g0 x0 y0, .func F0 #[] u0])) (h1 : a.tmps[s1]? = some (.agg #[.func g1 x1 y1, .func F1 #[] u1]))
    (hK : K (a.put (some j) (.slice (some ⟨w.heap.size, 0, none⟩) 2 2)) (w.alloc (.cells #[.func g0 x0 y0, .func F0 #[] u0, .func g1 x1 y1, .func F1 #[] u1] 113))) : Oper.wp Tryz.prog o a w K Q := by

  obtain ⟨dst, op, ty, pos, after, guard⟩ := o
  simp only at hop hd
  subst hop hd
  unfold Oper.wp execOp
  simp [go_sem, h0, h1, Result.andThen]
  exact hK

set_option maxRecDepth 100000 in
theorem op_slice3 {j s0 s1 s2 : Nat} {g0 F0 g1 F1 g2 F2 : Fn} {x0 y0 u0 x1 y1 u1 x2 y2 u2 : Array Value} (hop : o.op = .buildSlice 155 3 #[(0, .tmp s0), (1, .tmp s1), (2, .tmp s2)]) (hd : o.dst = some j) (h0 : a.tmps[s0]? = some (.agg #[.func g0 x0 y0, .func F0 #[] u0])) (h1 : a.tmps[s1]? = some (.agg #[.func g1 x1 y1, .func F1 #[] u1])) (h2 : a.tmps[s2]? = some (.agg #[.func g2 x2 y2, .func F2 #[] u2]))
    (hK : K (a.put (some j) (.slice (some ⟨w.heap.size, 0, none⟩) 3 3)) (w.alloc (.cells #[.func g0 x0 y0, .func F0 #[] u0, .func g1 x1 y1, .func F1 #[] u1, .func g2 x2 y2, .func F2 #[] u2] 113))) : Oper.wp Tryz.prog o a w K Q := by

  obtain ⟨dst, op, ty, pos, after, guard⟩ := o
  simp only at hop hd
  subst hop hd
  unfold Oper.wp execOp
  simp [go_sem, h0, h1, h2, Result.andThen]
  exact hK

set_option maxRecDepth 100000 in
theorem op_slice4 {j s0 s1 s2 s3 : Nat} {g0 F0 g1 F1 g2 F2 g3 F3 : Fn} {x0 y0 u0 x1 y1 u1 x2 y2 u2 x3 y3 u3 : Array Value} (hop : o.op = .buildSlice 155 4 #[(0, .tmp s0), (1, .tmp s1), (2, .tmp s2), (3, .tmp s3)]) (hd : o.dst = some j) (h0 : a.tmps[s0]? = some (.agg #[.func g0 x0 y0, .func F0 #[] u0])) (h1 : a.tmps[s1]? = some (.agg #[.func g1 x1 y1, .func F1 #[] u1])) (h2 : a.tmps[s2]? = some (.agg #[.func g2 x2 y2, .func F2 #[] u2])) (h3 : a.tmps[s3]? = some (.agg #[.func g3 x3 y3, .func F3 #[] u3]))
    (hK : K (a.put (some j) (.slice (some ⟨w.heap.size, 0, none⟩) 4 4)) (w.alloc (.cells #[.func g0 x0 y0, .func F0 #[] u0, .func g1 x1 y1, .func F1 #[] u1, .func g2 x2 y2, .func F2 #[] u2, .func g3 x3 y3, .func F3 #[] u3] 113))) : Oper.wp Tryz.prog o a w K Q := by

  obtain ⟨dst, op, ty, pos, after, guard⟩ := o
  simp only at hop hd
  subst hop hd
  unfold Oper.wp execOp
  simp [go_sem, h0, h1, h2, h3, Result.andThen]
  exact hK

set_option maxRecDepth 100000 in
theorem op_slice6 {j s0 s1 s2 s3 s4 s5 : Nat} {g0 F0 g1 F1 g2 F2 g3 F3 g4 F4 g5 F5 : Fn} {x0 y0 u0 x1 y1 u1 x2 y2 u2 x3 y3 u3 x4 y4 u4 x5 y5 u5 : Array Value} (hop : o.op = .buildSlice 155 6 #[(0, .tmp s0), (1, .tmp s1), (2, .tmp s2), (3, .tmp s3), (4, .tmp s4), (5, .tmp s5)]) (hd : o.dst = some j) (h0 : a.tmps[s0]? = some (.agg #[.func g0 x0 y0, .func F0 #[] u0])) (h1 : a.tmps[s1]? = some (.agg #[.func g1 x1 y1, .func F1 #[] u1])) (h2 : a.tmps[s2]? = some (.agg #[.func g2 x2 y2, .func F2 #[] u2])) (h3 : a.tmps[s3]? = some (.agg #[.func g3 x3 y3, .func F3 #[] u3])) (h4 : a.tmps[s4]? = some (.agg #[.func g4 x4 y4, .func F4 #[] u4])) (h5 : a.tmps[s5]? = some (.agg #[.func g5 x5 y5, .func F5 #[] u5]))
    (hK : K (a.put (some j) (.slice (some ⟨w.heap.size, 0, none⟩) 6 6)) (w.alloc (.cells #[.func g0 x0 y0, .func F0 #[] u0, .func g1 x1 y1, .func F1 #[] u1, .func g2 x2 y2, .func F2 #[] u2, .func g3 x3 y3, .func F3 #[] u3, .func g4 x4 y4, .func F4 #[] u4, .func g5 x5 y5, .func F5 #[] u5] 113))) : Oper.wp Tryz.prog o a w K Q := by

  obtain ⟨dst, op, ty, pos, after, guard⟩ := o
  simp only at hop hd
  subst hop hd
  unfold Oper.wp execOp
  simp [go_sem, h0, h1, h2, h3, h4, h5, Result.andThen]
  exact hK

set_option maxRecDepth 100000 in
theorem op_slice7 {j s0 s1 s2 s3 s4 s5 s6 : Nat} {g0 F0 g1 F1 g2 F2 g3 F3 g4 F4 g5 F5 g6 F6 : Fn} {x0 y0 u0 x1 y1 u1 x2 y2 u2 x3 y3 u3 x4 y4 u4 x5 y5 u5 x6 y6 u6 : Array Value} (hop : o.op = .buildSlice 155 7 #[(0, .tmp s0), (1, .tmp s1), (2, .tmp s2), (3, .tmp s3), (4, .tmp s4), (5, .tmp s5), (6, .tmp s6)]) (hd : o.dst = some j) (h0 : a.tmps[s0]? = some (.agg #[.func g0 x0 y0, .func F0 #[] u0])) (h1 : a.tmps[s1]? = some (.agg #[.func g1 x1 y1, .func F1 #[] u1])) (h2 : a.tmps[s2]? = some (.agg #[.func g2 x2 y2, .func F2 #[] u2])) (h3 : a.tmps[s3]? = some (.agg #[.func g3 x3 y3, .func F3 #[] u3])) (h4 : a.tmps[s4]? = some (.agg #[.func g4 x4 y4, .func F4 #[] u4])) (h5 : a.tmps[s5]? = some (.agg #[.func g5 x5 y5, .func F5 #[] u5])) (h6 : a.tmps[s6]? = some (.agg #[.func g6 x6 y6, .func F6 #[] u6]))
    (hK : K (a.put (some j) (.slice (some ⟨w.heap.size, 0, none⟩) 7 7)) (w.alloc (.cells #[.func g0 x0 y0, .func F0 #[] u0, .func g1 x1 y1, .func F1 #[] u1, .func g2 x2 y2, .func F2 #[] u2, .func g3 x3 y3, .func F3 #[] u3, .func g4 x4 y4, .func F4 #[] u4, .func g5 x5 y5, .func F5 #[] u5, .func g6 x6 y6, .func F6 #[] u6] 113))) : Oper.wp Tryz.prog o a w K Q := by

  obtain ⟨dst, op, ty, pos, after, guard⟩ := o
  simp only at hop hd
  subst hop hd
  unfold Oper.wp execOp
  simp [go_sem, h0, h1, h2, h3, h4, h5, h6, Result.andThen]
  exact hK

theorem op_call {j F : Nat} {args : Array Operand} {tys : Array TypeId} {vs : Array Value} {R : Value → World → Prop} (hop : o.op = .call { callee := .value (.func F), args := args, argTypes := tys }) (hd : o.dst = some j) (hev : args.map a.eval = vs)
    (hent : (callFunc F vs).run Tryz.prog w = .ok (.enter F vs) w) (hc : Calls Tryz.prog F vs w fun e w' => ∃ v, e = .returned v ∧ R v w') (hK : ∀ v w', R v w' → K (a.put (some j) v) w') : Oper.wp Tryz.prog o a w K Q := by
  obtain ⟨dst, op, ty, pos, after, guard⟩ := o
  simp only at hop hd
  subst hop hd
  unfold Oper.wp execOp
  simp only [go_sem, resolve, invoke, Sem.run_bind, Sem.run_pure, Result.andThen_ok]
  rw [hev]
  have e : (#[] ++ vs ++ #[] : Array Value) = vs := by simp
  rw [e, hent, Oper.upon_enter]
  refine hc.mono ?_
  rintro e w' ⟨v, rfl, hr⟩
  exact hK v w' hr

theorem op_make {j : Nat} (hop : o.op = .makeMap 55 none) (hd : o.dst = some j) (hK : K (a.put (some j) (.map (some w.heap.size))) (w.alloc (.map #[] 0))) : Oper.wp Tryz.prog o a w K Q := by
  obtain ⟨dst, op, ty, pos, after, guard⟩ := o
  simp only at hop hd
  subst hop hd
  unfold Oper.wp execOp
  simp [go_sem, Instr.makeMap, Result.andThen]
  exact hK

theorem op_move {j s : Nat} {v : Value} (hop : o.op = .move (.tmp s) ∨ o.op = .assign (.tmp s)) (hd : o.dst = some j) (hs : a.tmps[s]? = some v) (hK : K (a.put (some j) v) w) : Oper.wp Tryz.prog o a w K Q := by
  have e : a.tmps.getD s undef = v := by rw [Array.getD_eq_getD_getElem?, hs]; rfl
  obtain ⟨dst, op, ty, pos, after, guard⟩ := o
  simp only at hop hd
  subst hd
  rcases hop with rfl | rfl
  · unfold Oper.wp execOp
    simp [go_sem, e]
    exact hK
  · unfold Oper.wp execOp
    simp [go_sem, e]
    exact hK

theorem op_insert {s r : Nat} {x : Int} {v : Value} {w' : World} (hop : o.op = .insert 55 (.tmp 9) (.const (.int .i64 x)) (.tmp s)) (hd : o.dst = none) (h9 : a.tmps[9]? = some (.map (some r))) (hs : a.tmps[s]? = some v)
    (hr : (Instr.mapUpdate 55 (.map (some r)) (.int .i64 x) v).run Tryz.prog w = .ok () w') (hK : K a w') : Oper.wp Tryz.prog o a w K Q := by
  have e9 : a.tmps.getD 9 undef = .map (some r) := by rw [Array.getD_eq_getD_getElem?, h9]; rfl
  have e : a.tmps.getD s undef = v := by rw [Array.getD_eq_getD_getElem?, hs]; rfl
  obtain ⟨dst, op, ty, pos, after, guard⟩ := o
  simp only at hop hd
  subst hop hd
  unfold Oper.wp execOp
  simp [go_sem, e9, e, hr, Result.andThen, Act.put]
  exact hK
end
end Go.Proofs.YtddabafaejahbaaGreatDoor
/- textForms' map literal (readers): what holds while its operations come up, in whatever order. -/
namespace Go.Proofs.YtddabafaejahbaaGreatDoor
open Go.RowKit
set_option linter.unusedVariables false

/-- Which operation leaves what in which slot. -/
def slotTabR : List (Nat × Nat × SkR) := [(1, 10, .inl 4), (2, 11, .inr (.inl [4])), (3, 12, .inr (.inr (.inl [4]))), (5, 13, .inl 5), (6, 14, .inr (.inl [5])), (7, 15, .inr (.inr (.inl [5]))), (9, 16, .inl 0), (10, 17, .inr (.inl [0])), (11, 18, .inr (.inr (.inl [0]))), (13, 19, .inl 0), (14, 20, .inr (.inl [0])), (15, 21, .inr (.inr (.inl [0]))), (17, 22, .inl 0), (18, 23, .inr (.inl [0])), (19, 24, .inr (.inr (.inl [0]))), (21, 25, .inl 0), (22, 26, .inr (.inl [0])), (23, 27, .inr (.inr (.inl [0]))), (25, 28, .inl 9), (26, 29, .inl 0), (27, 30, .inr (.inl [9, 0])), (28, 31, .inr (.inr (.inl [9, 0]))), (30, 32, .inl 0), (31, 33, .inl 0), (32, 34, .inl 11), (33, 35, .inl 6), (34, 36, .inl 6), (35, 37, .inl 6), (36, 38, .inl 6), (37, 39, .inr (.inl [0, 0, 11, 6, 6, 6, 6])), (38, 40, .inr (.inr (.inl [0, 0, 11, 6, 6, 6, 6]))), (40, 41, .inl 9), (41, 42, .inl 9), (42, 43, .inl 9), (43, 44, .inl 0), (44, 45, .inr (.inl [9, 9, 9, 0])), (45, 46, .inr (.inr (.inl [9, 9, 9, 0]))), (47, 47, .inl 1), (48, 48, .inr (.inr (.inr false))), (50, 49, .inl 1), (51, 50, .inl 1), (52, 51, .inr (.inl [1, 1])), (53, 52, .inr (.inr (.inl [1, 1]))), (55, 53, .inl 9), (56, 54, .inl 9), (57, 55, .inl 1), (58, 56, .inl 1), (59, 57, .inl 1), (60, 58, .inl 0), (61, 59, .inr (.inl [9, 9, 1, 1, 1, 0])), (62, 60, .inr (.inr (.inl [9, 9, 1, 1, 1, 0]))), (64, 61, .inl 8), (65, 62, .inl 2), (66, 63, .inl 3), (67, 64, .inr (.inl [8, 2, 3])), (68, 65, .inr (.inr (.inl [8, 2, 3]))), (70, 66, .inr (.inr (.inr true)))]
/-- Which operation lays which key into the map. -/
def insTabR : List (Nat × Int) := [(4, 1), (8, 28), (12, 2), (16, 5), (20, 12), (24, 39), (29, 15), (39, 6), (46, 33), (49, 16), (54, 13), (63, 35), (69, 257), (71, 47)]

def slotFineR : Bool := slotTabR.all fun x => decide (1 ≤ x.1) && decide (x.1 ≤ 70) && decide (10 ≤ x.2.1) && decide (x.2.1 ≤ 66) && (slotTabR.all fun y => (!(x.1 == y.1) || decide (x = y)) && (!(x.2.1 == y.2.1) || x.1 == y.1)) && (insTabR.all fun y => !(y.1 == x.1))
theorem slot_fineR : slotFineR = true := by decide +kernel
def insFineR : Bool := insTabR.all fun x => decide (1 ≤ x.1) && decide (x.1 ≤ 71) && (insTabR.all fun y => (x.1 == y.1) == (x.2 == y.2))
theorem ins_fineR : insFineR = true := by decide +kernel

theorem slot_factsR {x : Nat × Nat × SkR} (h : x ∈ slotTabR) : 1 ≤ x.1 ∧ x.1 ≤ 70 ∧ 10 ≤ x.2.1 ∧ x.2.1 ≤ 66 ∧ (∀ y ∈ slotTabR, (x.1 = y.1 → x = y) ∧ (x.2.1 = y.2.1 → x.1 = y.1)) ∧ ∀ y ∈ insTabR, y.1 ≠ x.1 := by
  have h1 := List.all_eq_true.1 slot_fineR x h
  simp only [Bool.and_eq_true, decide_eq_true_eq, List.all_eq_true] at h1
  obtain ⟨⟨⟨⟨⟨a1, a2⟩, a3⟩, a4⟩, a5⟩, a6⟩ := h1
  refine ⟨a1, a2, a3, a4, fun y hy => ?_, fun y hy e => ?_⟩
  · have := a5 y hy
    simp only [Bool.or_eq_true, Bool.not_eq_true', beq_eq_false_iff_ne, beq_iff_eq, decide_eq_true_eq] at this
    exact ⟨fun e => this.1.resolve_left (fun n => n e), fun e => this.2.resolve_left (fun n => n e)⟩
  · have := a6 y hy
    simp [e] at this

theorem ins_factsR {x : Nat × Int} (h : x ∈ insTabR) : 1 ≤ x.1 ∧ x.1 ≤ 71 ∧ ∀ y ∈ insTabR, (x.1 = y.1 ↔ x.2 = y.2) := by
  have h1 := List.all_eq_true.1 ins_fineR x h
  simp only [Bool.and_eq_true, decide_eq_true_eq, List.all_eq_true] at h1
  obtain ⟨⟨a1, a2⟩, a3⟩ := h1
  refine ⟨a1, a2, fun y hy => ?_⟩
  have := a3 y hy
  simp only [beq_iff_eq] at this
  constructor
  · intro e
    have h2 : (x.1 == y.1) = true := by simp [e]
    rw [h2] at this
    simpa using this.symm
  · intro e
    have h2 : (x.2 == y.2) = true := by simp [e]
    rw [h2] at this
    simpa using this

/-- What holds while the operations come up. -/
structure TIR (W0 : World) (b1 b2 b3 b4 : Nat) (listed : Array Bool) (a : Act) (w : World) : Prop where
  sz : a.tmps.size = 68
  df : a.defers = []
  p1 : a.tmps[1]? = some (.pointer (some ⟨b1, 0, none⟩))
  p2 : a.tmps[2]? = some (.pointer (some ⟨b2, 0, none⟩))
  p3 : a.tmps[3]? = some (.pointer (some ⟨b3, 0, none⟩))
  p4 : a.tmps[4]? = some (.pointer (some ⟨b4, 0, none⟩))
  be : Below W0.heap.size W0 w
  sl : ∀ x ∈ slotTabR, listed.getD x.1 false = true → ∃ v, a.tmps[x.2.1]? = some v ∧ SVr w x.2.2 v
  mp : listed.getD 0 false = true → ∃ r L, a.tmps[9]? = some (.map (some r)) ∧ W0.heap.size ≤ r ∧ IMap w r L ∧ (∀ p ∈ L, ∃ F, (p.1, F) ∈ formTabR ∧ TFr w F p.2) ∧ (∀ x ∈ insTabR, (∃ v, (x.2, v) ∈ L) ↔ listed.getD x.1 false = true)
  dn : ∀ d, ((∃ x, (d, x) ∈ insTabR) ∨ d = 72 ∨ d = 73) → listed.getD d false = true → listed.getD 0 false = true
  mv : listed.getD 72 false = true → a.tmps[67]? = a.tmps[9]?
  asg : listed.getD 73 false = true → a.tmps[0]? = a.tmps[9]?

theorem gsetR {listed : Array Bool} {d x : Nat} (hd : d < listed.size) : (listed.setIfInBounds d true).getD x false = true ↔ x = d ∨ listed.getD x false = true := by
  rw [Array.getD_eq_getD_getElem?, Array.getD_eq_getD_getElem?, Array.getElem?_setIfInBounds]
  by_cases e : d = x
  · subst e; simp [hd]
  · rw [if_neg e]
    constructor
    · exact fun h => .inr h
    · rintro (h | h)
      · exact absurd h.symm e
      · exact h

theorem put_getR {a : Act} {j i : Nat} {v : Value} (hj : j < a.tmps.size) : (a.put (some j) v).tmps[i]? = if j = i then some v else a.tmps[i]? := by
  show (a.tmps.setIfInBounds j v)[i]? = _
  rw [Array.getElem?_setIfInBounds]
  by_cases e : j = i
  · subst e; simp [hj]
  · rw [if_neg e, if_neg e]

section
variable {b1 b2 b3 b4 : Nat} {W0 : World} {listed : Array Bool} {a : Act} {w w' : World}

theorem ti_putR {d j : Nat} {s : SkR} {v : Value} (h : TIR W0 b1 b2 b3 b4 listed a w) (hl : listed.size = 74) (hb : Below w.heap.size w w') (ht : (d, j, s) ∈ slotTabR) (hv : SVr w' s v) : TIR W0 b1 b2 b3 b4 (listed.setIfInBounds d true) (a.put (some j) v) w' := by
  obtain ⟨f1, f2, f3, f4, f5, f6⟩ := slot_factsR ht
  simp only at f1 f2 f3 f4 f5 f6
  have hj : j < a.tmps.size := by rw [h.sz]; omega
  have hd : d < listed.size := by omega
  have hk := keptR_below hb
  have far : ∀ i, j ≠ i → (a.put (some j) v).tmps[i]? = a.tmps[i]? := fun i hi => by rw [put_getR hj, if_neg hi]
  refine ⟨by show (a.tmps.setIfInBounds j v).size = 68; simpa using h.sz, h.df, by rw [far 1 (by omega)]; exact h.p1, by rw [far 2 (by omega)]; exact h.p2, by rw [far 3 (by omega)]; exact h.p3, by rw [far 4 (by omega)]; exact h.p4, h.be.trans (hb.mono h.be.size), ?_, ?_, ?_, ?_, ?_⟩
  · intro x hx hlx
    rcases (gsetR hd).1 hlx with e | e
    · have := (f5 x hx).1 e.symm
      subst this
      exact ⟨v, by rw [put_getR hj, if_pos rfl], hv⟩
    · obtain ⟨v', hv1, hv2⟩ := h.sl x hx e
      by_cases e2 : d = x.1
      · have := (f5 x hx).1 e2
        subst this
        exact ⟨v, by rw [put_getR hj, if_pos rfl], hv⟩
      · refine ⟨v', ?_, hv2.kept hk⟩
        rw [far _ (fun e3 => e2 ((f5 x hx).2 e3))]
        exact hv1
  · intro h0
    rcases (gsetR hd).1 h0 with e | e
    · omega
    · obtain ⟨r, L, m1, m2, m3, m4, m5⟩ := h.mp e
      refine ⟨r, L, by rw [far 9 (by omega)]; exact m1, m2, m3.kept (hb.block r m3.lt), fun p hp => ?_, fun x hx => ?_⟩
      · obtain ⟨F, q1, q2⟩ := m4 p hp
        exact ⟨F, q1, q2.kept hk⟩
      · rw [m5 x hx, gsetR hd]
        have := f6 x hx
        constructor
        · exact fun h => .inr h
        · rintro (h | h)
          · exact absurd h this
          · exact h
  · intro y hy hly
    rcases (gsetR hd).1 hly with e | e
    · rcases hy with ⟨x, hx⟩ | rfl | rfl
      · exact absurd e (f6 _ hx)
      · omega
      · omega
    · exact (gsetR hd).2 (.inr (h.dn y hy e))
  · intro h0
    rcases (gsetR hd).1 h0 with e | e
    · omega
    · rw [far 67 (by omega), far 9 (by omega)]; exact h.mv e
  · intro h0
    rcases (gsetR hd).1 h0 with e | e
    · omega
    · rw [far 0 (by omega), far 9 (by omega)]; exact h.asg e

theorem ti_insR {d r : Nat} {x : Int} {v : Value} {F : List Nat ⊕ Bool} (h : TIR W0 b1 b2 b3 b4 listed a w) (hl : listed.size = 74) (hu : listed.getD d true = false) (h0 : listed.getD 0 false = true) (hi : (d, x) ∈ insTabR) (hF : (x, F) ∈ formTabR) (hw : (Lit.int .i64 x).wf = true) (hv : TFr w F v) :
    ∃ r w', a.tmps[9]? = some (.map (some r)) ∧ (Instr.mapUpdate 55 (.map (some r)) (.int .i64 x) v).run Tryz.prog w = .ok () w' ∧ TIR W0 b1 b2 b3 b4 (listed.setIfInBounds d true) a w' := by
  obtain ⟨f1, f2, f3⟩ := ins_factsR hi
  simp only at f1 f2 f3
  have hd : d < listed.size := by omega
  have hud : ¬ listed.getD d false = true := by
    rw [Array.getD_eq_getD_getElem?, Array.getElem?_eq_getElem hd] at hu ⊢
    simp at hu ⊢
    exact hu
  obtain ⟨r, L, m1, m2, m3, m4, m5⟩ := h.mp h0
  have hnew : ∀ p ∈ L, p.1 ≠ x := by
    intro p hp e
    apply hud
    rw [← m5 (d, x) hi]
    exact ⟨p.2, by rw [← e]; exact hp⟩
  obtain ⟨w', q1, q2, q3⟩ := m3.put (P := Tryz.prog) (t := 55) (k := 2) (e := 53) Tryz.underlying2 Tryz.underlying55 hw v hnew
  have hk := keptR_map m3 q3
  refine ⟨r, w', m1, q1, h.sz, h.df, h.p1, h.p2, h.p3, h.p4, h.be.grown q3 h.be.size (fun k hk => by simp at hk; omega), ?_, ?_, ?_, ?_, ?_⟩
  · intro y hy hly
    rcases (gsetR hd).1 hly with e | e
    · exact absurd e.symm ((slot_factsR hy).2.2.2.2.2 (d, x) hi)
    · obtain ⟨v', hv1, hv2⟩ := h.sl y hy e
      exact ⟨v', hv1, hv2.kept hk⟩
  · intro _
    refine ⟨r, L ++ [(x, v)], m1, m2, q2, fun p hp => ?_, fun y hy => ?_⟩
    · rcases List.mem_append.1 hp with hp | hp
      · obtain ⟨F', z1, z2⟩ := m4 p hp
        exact ⟨F', z1, z2.kept hk⟩
      · simp at hp
        subst hp
        exact ⟨F, hF, hv.kept hk⟩
    · rw [gsetR hd, ← m5 y hy]
      constructor
      · rintro ⟨u, hu2⟩
        rcases List.mem_append.1 hu2 with hp | hp
        · exact .inr ⟨u, hp⟩
        · simp at hp
          exact .inl ((f3 y hy).2 hp.1.symm).symm
      · rintro (e | ⟨u, hp⟩)
        · exact ⟨v, List.mem_append.2 (.inr (by simp [((f3 y hy).1 e.symm)]))⟩
        · exact ⟨u, List.mem_append.2 (.inl hp)⟩
  · intro _ _ _
    exact (gsetR hd).2 (.inr h0)
  · intro e
    rcases (gsetR hd).1 e with e | e
    · omega
    · exact h.mv e
  · intro e
    rcases (gsetR hd).1 e with e | e
    · omega
    · exact h.asg e

theorem unlR {d : Nat} (hd : d < listed.size) (hu : listed.getD d true = false) : ¬ listed.getD d false = true := by
  rw [Array.getD_eq_getD_getElem?, Array.getElem?_eq_getElem hd] at hu ⊢
  simp at hu ⊢
  exact hu

theorem ti_makeR (h : TIR W0 b1 b2 b3 b4 listed a w) (hl : listed.size = 74) (hu : listed.getD 0 true = false) : TIR W0 b1 b2 b3 b4 (listed.setIfInBounds 0 true) (a.put (some 9) (.map (some w.heap.size))) (w.alloc (.map #[] 0)) := by
  have hj : 9 < a.tmps.size := by rw [h.sz]; omega
  have hd : 0 < listed.size := by omega
  have h0 := unlR hd hu
  have hn : ∀ x ∈ insTabR, ¬ listed.getD x.1 false = true := fun x hx e => h0 (h.dn x.1 (.inl ⟨x.2, hx⟩) e)
  have hn2 : ¬ listed.getD 72 false = true := fun e => h0 (h.dn 72 (.inr (.inl rfl)) e)
  have hn3 : ¬ listed.getD 73 false = true := fun e => h0 (h.dn 73 (.inr (.inr rfl)) e)
  have hb : Below w.heap.size w (w.alloc (.map #[] 0)) := (Below.refl _ _).alloc (Nat.le_refl _) _
  have hk := keptR_below hb
  have far : ∀ i, 9 ≠ i → (a.put (some 9) (.map (some w.heap.size))).tmps[i]? = a.tmps[i]? := fun i hi => by rw [put_getR hj, if_neg hi]
  refine ⟨by show (a.tmps.setIfInBounds 9 _).size = 68; simpa using h.sz, h.df, by rw [far 1 (by omega)]; exact h.p1, by rw [far 2 (by omega)]; exact h.p2, by rw [far 3 (by omega)]; exact h.p3, by rw [far 4 (by omega)]; exact h.p4, h.be.trans (hb.mono h.be.size), ?_, ?_, ?_, ?_, ?_⟩
  · intro x hx hlx
    obtain ⟨f1, f2, f3, f4, f5, f6⟩ := slot_factsR hx
    rcases (gsetR hd).1 hlx with e | e
    · omega
    · obtain ⟨v', hv1, hv2⟩ := h.sl x hx e
      exact ⟨v', by rw [far _ (by omega)]; exact hv1, hv2.kept hk⟩
  · intro _
    refine ⟨w.heap.size, [], by rw [put_getR hj, if_pos rfl], h.be.size, imap_made w, fun p hp => (by cases hp), fun x hx => ?_⟩
    rw [gsetR hd]
    constructor
    · rintro ⟨v, hv⟩; cases hv
    · rintro (e | e)
      · have := (ins_factsR hx).1; omega
      · exact absurd e (hn x hx)
  · intro _ _ _
    exact (gsetR hd).2 (.inl rfl)
  · intro e
    rcases (gsetR hd).1 e with e | e
    · omega
    · exact absurd e hn2
  · intro e
    rcases (gsetR hd).1 e with e | e
    · omega
    · exact absurd e hn3

theorem ti_mvR {v : Value} (h : TIR W0 b1 b2 b3 b4 listed a w) (hl : listed.size = 74) (h0 : listed.getD 0 false = true) (h9 : a.tmps[9]? = some v) : TIR W0 b1 b2 b3 b4 (listed.setIfInBounds 72 true) (a.put (some 67) v) w := by
  have hj : 67 < a.tmps.size := by rw [h.sz]; omega
  have hd : 72 < listed.size := by omega
  have far : ∀ i, 67 ≠ i → (a.put (some 67) v).tmps[i]? = a.tmps[i]? := fun i hi => by rw [put_getR hj, if_neg hi]
  refine ⟨by show (a.tmps.setIfInBounds 67 _).size = 68; simpa using h.sz, h.df, by rw [far 1 (by omega)]; exact h.p1, by rw [far 2 (by omega)]; exact h.p2, by rw [far 3 (by omega)]; exact h.p3, by rw [far 4 (by omega)]; exact h.p4, h.be, ?_, ?_, ?_, ?_, ?_⟩
  · intro x hx hlx
    obtain ⟨f1, f2, f3, f4, f5, f6⟩ := slot_factsR hx
    rcases (gsetR hd).1 hlx with e | e
    · omega
    · obtain ⟨v', hv1, hv2⟩ := h.sl x hx e
      exact ⟨v', by rw [far _ (by omega)]; exact hv1, hv2⟩
  · intro _
    obtain ⟨r, L, m1, m2, m3, m4, m5⟩ := h.mp h0
    refine ⟨r, L, by rw [far 9 (by omega)]; exact m1, m2, m3, m4, fun x hx => ?_⟩
    rw [m5 x hx, gsetR hd]
    have := (ins_factsR hx).2.1
    constructor
    · exact fun h => .inr h
    · rintro (h | h)
      · omega
      · exact h
  · intro _ _ _
    exact (gsetR hd).2 (.inr h0)
  · intro _
    rw [put_getR hj, if_pos rfl, far 9 (by omega), h9]
  · intro e
    rcases (gsetR hd).1 e with e | e
    · omega
    · rw [far 0 (by omega), far 9 (by omega)]; exact h.asg e

theorem ti_asR {v : Value} (h : TIR W0 b1 b2 b3 b4 listed a w) (hl : listed.size = 74) (h0 : listed.getD 0 false = true) (h9 : a.tmps[9]? = some v) : TIR W0 b1 b2 b3 b4 (listed.setIfInBounds 73 true) (a.put (some 0) v) w := by
  have hj : 0 < a.tmps.size := by rw [h.sz]; omega
  have hd : 73 < listed.size := by omega
  have far : ∀ i, 0 ≠ i → (a.put (some 0) v).tmps[i]? = a.tmps[i]? := fun i hi => by rw [put_getR hj, if_neg hi]
  refine ⟨by show (a.tmps.setIfInBounds 0 _).size = 68; simpa using h.sz, h.df, by rw [far 1 (by omega)]; exact h.p1, by rw [far 2 (by omega)]; exact h.p2, by rw [far 3 (by omega)]; exact h.p3, by rw [far 4 (by omega)]; exact h.p4, h.be, ?_, ?_, ?_, ?_, ?_⟩
  · intro x hx hlx
    obtain ⟨f1, f2, f3, f4, f5, f6⟩ := slot_factsR hx
    rcases (gsetR hd).1 hlx with e | e
    · omega
    · obtain ⟨v', hv1, hv2⟩ := h.sl x hx e
      exact ⟨v', by rw [far _ (by omega)]; exact hv1, hv2⟩
  · intro _
    obtain ⟨r, L, m1, m2, m3, m4, m5⟩ := h.mp h0
    refine ⟨r, L, by rw [far 9 (by omega)]; exact m1, m2, m3, m4, fun x hx => ?_⟩
    rw [m5 x hx, gsetR hd]
    have := (ins_factsR hx).2.1
    constructor
    · exact fun h => .inr h
    · rintro (h | h)
      · omega
      · exact h
  · intro _ _ _
    exact (gsetR hd).2 (.inr h0)
  · intro e
    rcases (gsetR hd).1 e with e | e
    · omega
    · rw [far 67 (by omega), far 9 (by omega)]; exact h.mv e
  · intro _
    rw [put_getR hj, if_pos rfl, far 9 (by omega), h9]
end
end Go.Proofs.YtddabafaejahbaaGreatDoor
/- textForms' operations under the invariant. -/
namespace Go.Proofs.YtddabafaejahbaaGreatDoor
open Go.RowKit
set_option linter.unusedVariables false

/-- An operation waits for another. -/
def waitsOnR (o : Oper) (d : Nat) : Bool := o.after.any fun e => Region.binds .any e && e.on == d

theorem depR {o : Oper} {d : Nat} {listed : Array Bool} (h : waitsOnR o d = true) (hall : ∀ e ∈ o.after, Region.binds .any e = true → listed.getD e.on false = true) : listed.getD d false = true := by
  simp only [waitsOnR, Array.any_eq_true', Bool.and_eq_true, beq_iff_eq] at h
  obtain ⟨e, he, hb, rfl⟩ := h
  exact hall e he hb

/-- Operation i, wherever it comes up, leaves what is held. -/
def GOR (W0 : World) (b1 b2 b3 b4 : Nat) (Q : Exit → Act → World → Prop) (i : Nat) (o : Oper) : Prop := o.guard = none ∧ ∀ (listed : Array Bool) (a : Act) (w : World), listed.size = 74 → listed.getD i true = false → (∀ e ∈ o.after, Region.binds .any e = true → listed.getD e.on false = true) → TIR W0 b1 b2 b3 b4 listed a w →
  ∀ K' : Act → World → Prop, (∀ a w, TIR W0 b1 b2 b3 b4 (listed.setIfInBounds i true) a w → K' a w) → Oper.wp Tryz.prog o a w K' Q

/-- Of each of these operations, from number n on. -/
def AllFromR (G : Nat → Oper → Prop) : Nat → List Oper → Prop
  | _, [] => True
  | n, o :: r => G n o ∧ AllFromR G (n + 1) r

theorem all_getR {G : Nat → Oper → Prop} : ∀ (l : List Oper) (n i : Nat) (o : Oper), AllFromR G n l → l[i]? = some o → G (n + i) o
  | [], _, _, _, _, h => by simp at h
  | x :: r, n, 0, o, hA, h => by simp at h; subst h; exact hA.1
  | x :: r, n, i + 1, o, hA, h => by
    have := all_getR r (n + 1) i o hA.2 (by simpa using h)
    rw [show n + (i + 1) = n + 1 + i by omega]
    exact this

theorem all_appendR {G : Nat → Oper → Prop} : ∀ (l1 l2 : List Oper) (n : Nat), AllFromR G n l1 → AllFromR G (n + l1.length) l2 → AllFromR G n (l1.append l2)
  | [], _, _, _, h => h
  | x :: r, l2, n, h1, h2 => ⟨h1.1, all_appendR r l2 (n + 1) h1.2 (by rw [show n + 1 + r.length = n + (x :: r).length by simp; omega]; exact h2)⟩

/-- A form lies in a variable. -/
def FVcR (w : World) (b K : Nat) : Prop := ∃ g x y F u, w.cell? ⟨b, 0, none⟩ = some (.func g x y) ∧ w.cell? ⟨b, 1, none⟩ = some (.func F #[] u) ∧ RVal w K (.func g x y)

section
variable {W0 : World} {b1 b2 b3 b4 : Nat} {Q : Exit → Act → World → Prop} {o : Oper}

theorem go_loadR {d j t b K : Nat} (hg : o.guard = none) (hop : o.op = .load 113 (.tmp t)) (hd : o.dst = some j) (ht : (d, j, .inl K) ∈ slotTabR) (hp : ∀ {listed : Array Bool} {a : Act} {w : World}, TIR W0 b1 b2 b3 b4 listed a w → a.tmps[t]? = some (.pointer (some ⟨b, 0, none⟩))) (hv : FVcR W0 b K) : GOR W0 b1 b2 b3 b4 Q d o := by
  refine ⟨hg, fun listed a w hl hu hall hI K' hK => ?_⟩
  obtain ⟨g, x, y, F, u, c0, c1, hw⟩ := hv
  have k := keptR_below hI.be
  exact op_load hop hd (hp hI) (k _ _ c0) (k _ _ c1) (hK _ _ (ti_putR hI hl (Below.refl _ _) ht ⟨g, x, y, F, u, rfl, hw.kept k⟩))

theorem go_mkR {d j F : Nat} {s : SkR} {args : Array Operand} {tys : Array TypeId} {vs : Array Value} (hg : o.guard = none) (hop : o.op = .call { callee := .value (.func F), args := args, argTypes := tys }) (hd : o.dst = some j) (ht : (d, j, s) ∈ slotTabR) (hev : ∀ a : Act, args.map a.eval = vs)
    (hent : ∀ w : World, (callFunc F vs).run Tryz.prog w = .ok (.enter F vs) w) (hc : ∀ w : World, Calls Tryz.prog F vs w fun e w' => (∃ f, e = .returned f ∧ SVr w' s f) ∧ Below w.heap.size w w') : GOR W0 b1 b2 b3 b4 Q d o := by
  refine ⟨hg, fun listed a w hl hu hall hI K' hK => ?_⟩
  refine op_call (R := fun v w' => SVr w' s v ∧ Below w.heap.size w w') hop hd (hev a) (hent w) ((hc w).mono ?_) ?_
  · rintro e w' ⟨⟨f, h1, h2⟩, h3⟩
    exact ⟨f, h1, h2, h3⟩
  · rintro v w' ⟨h1, h2⟩
    exact hK _ _ (ti_putR hI hl h2 ht h1)

theorem just_entersR (V : Value) (w : World) : (callFunc 62 #[V]).run Tryz.prog w = .ok (.enter 62 #[V]) w := by kernel_rfl
theorem many_entersR (V : Value) (w : World) : (callFunc 68 #[V]).run Tryz.prog w = .ok (.enter 68 #[V]) w := by kernel_rfl

theorem go_justR {d j d0 s0 : Nat} {ks : List Nat} {tys : Array TypeId} (hg : o.guard = none) (hop : o.op = .call { callee := .value (.func 62), args := #[.tmp s0], argTypes := tys }) (hd : o.dst = some j) (ht : (d, j, .inr (.inr (.inl ks))) ∈ slotTabR) (t0 : (d0, s0, .inr (.inl ks)) ∈ slotTabR) (e0 : waitsOnR o d0 = true) : GOR W0 b1 b2 b3 b4 Q d o := by
  refine ⟨hg, fun listed a w hl hu hall hI K' hK => ?_⟩
  obtain ⟨v, m, g, rfl, hf⟩ := hI.sl _ t0 (depR e0 hall)
  simp only at m
  have hev : (#[.tmp s0] : Array Operand).map a.eval = #[.slice (some ⟨g, 0, none⟩) ks.length ks.length] := by
    have e : a.tmps.getD s0 undef = .slice (some ⟨g, 0, none⟩) ks.length ks.length := by rw [Array.getD_eq_getD_getElem?, m]; rfl
    simp [Act.eval, e]
  refine op_call (R := fun v w' => TFr w' (.inl ks) v ∧ Below w.heap.size w w') hop hd hev (just_entersR _ w) ((justWordsR_any _ w _ _ _ rfl).mono ?_) ?_
  · rintro e w' ⟨⟨gc, F, y, rfl, hc⟩, hb⟩
    exact ⟨_, rfl, ⟨gc, F, y, g, _, rfl, hc, hf.kept (keptR_below hb)⟩, hb⟩
  · rintro v w' ⟨h1, h2⟩
    exact hK _ _ (ti_putR hI hl h2 ht h1)

theorem go_manyR {d j d0 s0 : Nat} {tys : Array TypeId} (hg : o.guard = none) (hop : o.op = .call { callee := .value (.func 68), args := #[.tmp s0], argTypes := tys }) (hd : o.dst = some j) (ht : (d, j, .inr (.inr (.inr false))) ∈ slotTabR) (t0 : (d0, s0, .inl 1) ∈ slotTabR) (e0 : waitsOnR o d0 = true) : GOR W0 b1 b2 b3 b4 Q d o := by
  refine ⟨hg, fun listed a w hl hu hall hI K' hK => ?_⟩
  obtain ⟨v, m, g, x, y, F, u, rfl, hq⟩ := hI.sl _ t0 (depR e0 hall)
  simp only at m
  have hq2 : Value.func g x y = .func (.func 99) #[] #[] := hq
  rw [hq2] at m
  have hev : (#[.tmp s0] : Array Operand).map a.eval = #[.agg #[.func (.func 99) #[] #[], .func F #[] u]] := by
    have e : a.tmps.getD s0 undef = .agg #[.func (.func 99) #[] #[], .func F #[] u] := by rw [Array.getD_eq_getD_getElem?, m]; rfl
    simp [Act.eval, e]
  refine op_call (R := fun v w' => TFr w' (.inr false) v ∧ Below w.heap.size w w') hop hd hev (many_entersR _ w) ((manyWordsR_any w _ _ _ _ _ _).mono ?_) ?_
  · rintro e w' ⟨⟨gc, F, y, rfl, hc, hc2⟩, hb⟩
    exact ⟨_, rfl, ⟨gc, F, y, rfl, hc, _, _, hc2⟩, hb⟩
  · rintro v w' ⟨h1, h2⟩
    exact hK _ _ (ti_putR hI hl h2 ht h1)

theorem go_makeR (hg : o.guard = none) (hop : o.op = .makeMap 55 none) (hd : o.dst = some 9) : GOR W0 b1 b2 b3 b4 Q 0 o :=
  ⟨hg, fun listed a w hl hu hall hI K' hK => op_make hop hd (hK _ _ (ti_makeR hI hl hu))⟩

theorem go_insR {d d0 s0 : Nat} {x : Int} {F : List Nat ⊕ Bool} (hg : o.guard = none) (hop : o.op = .insert 55 (.tmp 9) (.const (.int .i64 x)) (.tmp s0)) (hd : o.dst = none) (hi : (d, x) ∈ insTabR) (hF : (x, F) ∈ formTabR) (hw : (Lit.int .i64 x).wf = true) (t0 : (d0, s0, .inr (.inr F)) ∈ slotTabR) (e0 : waitsOnR o d0 = true) (e9 : waitsOnR o 0 = true) : GOR W0 b1 b2 b3 b4 Q d o := by
  refine ⟨hg, fun listed a w hl hu hall hI K' hK => ?_⟩
  obtain ⟨v, m, hv⟩ := hI.sl _ t0 (depR e0 hall)
  obtain ⟨r, w', h9, hr, hT⟩ := ti_insR (r := 0) hI hl hu (depR e9 hall) hi hF hw hv
  exact op_insert hop hd h9 m hr (hK _ _ hT)

theorem go_mvR (hg : o.guard = none) (hop : o.op = .move (.tmp 9)) (hd : o.dst = some 67) (e0 : waitsOnR o 0 = true) : GOR W0 b1 b2 b3 b4 Q 72 o := by
  refine ⟨hg, fun listed a w hl hu hall hI K' hK => ?_⟩
  obtain ⟨r, L, m1, _⟩ := hI.mp (depR e0 hall)
  exact op_move (.inl hop) hd m1 (hK _ _ (ti_mvR hI hl (depR e0 hall) m1))

theorem go_asR (hg : o.guard = none) (hop : o.op = .assign (.tmp 67)) (hd : o.dst = some 0) (e0 : waitsOnR o 0 = true) (e72 : waitsOnR o 72 = true) : GOR W0 b1 b2 b3 b4 Q 73 o := by
  refine ⟨hg, fun listed a w hl hu hall hI K' hK => ?_⟩
  obtain ⟨r, L, m1, _⟩ := hI.mp (depR e0 hall)
  have h67 := hI.mv (depR e72 hall)
  rw [m1] at h67
  exact op_move (.inr hop) hd h67 (hK _ _ (ti_asR hI hl (depR e0 hall) m1))

theorem go_slice1R {d j d0 s0 k0 : Nat} (hg : o.guard = none) (hop : o.op = .buildSlice 155 1 #[(0, .tmp s0)]) (hd : o.dst = some j) (ht : (d, j, .inr (.inl [k0])) ∈ slotTabR) (t0 : (d0, s0, .inl k0) ∈ slotTabR) (e0 : waitsOnR o d0 = true) : GOR W0 b1 b2 b3 b4 Q d o := by
  refine ⟨hg, fun listed a w hl hu hall hI K' hK => ?_⟩
  obtain ⟨v0, m0, g0, x0, y0, F0, u0, rfl, q0⟩ := hI.sl _ t0 (depR e0 hall)
  refine op_slice1 hop hd m0 (hK _ _ (ti_putR hI hl ((Below.refl _ _).alloc (Nat.le_refl _) _) ht ⟨w.heap.size, rfl, ?_⟩))
  intro i K hi
  match i, hi with
  | 0, hi =>
    obtain rfl : K = k0 := by simpa using hi.symm
    exact ⟨g0, x0, y0, F0, u0, by rw [World.cell?_alloc_new]; rfl, by rw [World.cell?_alloc_new]; rfl, q0.kept (keptR_below ((Below.refl _ _).alloc (Nat.le_refl _) _))⟩
  | i + 1, hi => simp at hi

theorem go_slice2R {d j d0 d1 s0 s1 k0 k1 : Nat} (hg : o.guard = none) (hop : o.op = .buildSlice 155 2 #[(0, .tmp s0), (1, .tmp s1)]) (hd : o.dst = some j) (ht : (d, j, .inr (.inl [k0, k1])) ∈ slotTabR) (t0 : (d0, s0, .inl k0) ∈ slotTabR) (t1 : (d1, s1, .inl k1) ∈ slotTabR) (e0 : waitsOnR o d0 = true) (e1 : waitsOnR o d1 = true) : GOR W0 b1 b2 b3 b4 Q d o := by
  refine ⟨hg, fun listed a w hl hu hall hI K' hK => ?_⟩
  obtain ⟨v0, m0, g0, x0, y0, F0, u0, rfl, q0⟩ := hI.sl _ t0 (depR e0 hall)
  obtain ⟨v1, m1, g1, x1, y1, F1, u1, rfl, q1⟩ := hI.sl _ t1 (depR e1 hall)
  refine op_slice2 hop hd m0 m1 (hK _ _ (ti_putR hI hl ((Below.refl _ _).alloc (Nat.le_refl _) _) ht ⟨w.heap.size, rfl, ?_⟩))
  intro i K hi
  match i, hi with
  | 0, hi =>
    obtain rfl : K = k0 := by simpa using hi.symm
    exact ⟨g0, x0, y0, F0, u0, by rw [World.cell?_alloc_new]; rfl, by rw [World.cell?_alloc_new]; rfl, q0.kept (keptR_below ((Below.refl _ _).alloc (Nat.le_refl _) _))⟩
  | 1, hi =>
    obtain rfl : K = k1 := by simpa using hi.symm
    exact ⟨g1, x1, y1, F1, u1, by rw [World.cell?_alloc_new]; rfl, by rw [World.cell?_alloc_new]; rfl, q1.kept (keptR_below ((Below.refl _ _).alloc (Nat.le_refl _) _))⟩
  | i + 2, hi => simp at hi

theorem go_slice3R {d j d0 d1 d2 s0 s1 s2 k0 k1 k2 : Nat} (hg : o.guard = none) (hop : o.op = .buildSlice 155 3 #[(0, .tmp s0), (1, .tmp s1), (2, .tmp s2)]) (hd : o.dst = some j) (ht : (d, j, .inr (.inl [k0, k1, k2])) ∈ slotTabR) (t0 : (d0, s0, .inl k0) ∈ slotTabR) (t1 : (d1, s1, .inl k1) ∈ slotTabR) (t2 : (d2, s2, .inl k2) ∈ slotTabR) (e0 : waitsOnR o d0 = true) (e1 : waitsOnR o d1 = true) (e2 : waitsOnR o d2 = true) : GOR W0 b1 b2 b3 b4 Q d o := by
  refine ⟨hg, fun listed a w hl hu hall hI K' hK => ?_⟩
  obtain ⟨v0, m0, g0, x0, y0, F0, u0, rfl, q0⟩ := hI.sl _ t0 (depR e0 hall)
  obtain ⟨v1, m1, g1, x1, y1, F1, u1, rfl, q1⟩ := hI.sl _ t1 (depR e1 hall)
  obtain ⟨v2, m2, g2, x2, y2, F2, u2, rfl, q2⟩ := hI.sl _ t2 (depR e2 hall)
  refine op_slice3 hop hd m0 m1 m2 (hK _ _ (ti_putR hI hl ((Below.refl _ _).alloc (Nat.le_refl _) _) ht ⟨w.heap.size, rfl, ?_⟩))
  intro i K hi
  match i, hi with
  | 0, hi =>
    obtain rfl : K = k0 := by simpa using hi.symm
    exact ⟨g0, x0, y0, F0, u0, by rw [World.cell?_alloc_new]; rfl, by rw [World.cell?_alloc_new]; rfl, q0.kept (keptR_below ((Below.refl _ _).alloc (Nat.le_refl _) _))⟩
  | 1, hi =>
    obtain rfl : K = k1 := by simpa using hi.symm
    exact ⟨g1, x1, y1, F1, u1, by rw [World.cell?_alloc_new]; rfl, by rw [World.cell?_alloc_new]; rfl, q1.kept (keptR_below ((Below.refl _ _).alloc (Nat.le_refl _) _))⟩
  | 2, hi =>
    obtain rfl : K = k2 := by simpa using hi.symm
    exact ⟨g2, x2, y2, F2, u2, by rw [World.cell?_alloc_new]; rfl, by rw [World.cell?_alloc_new]; rfl, q2.kept (keptR_below ((Below.refl _ _).alloc (Nat.le_refl _) _))⟩
  | i + 3, hi => simp at hi

theorem go_slice4R {d j d0 d1 d2 d3 s0 s1 s2 s3 k0 k1 k2 k3 : Nat} (hg : o.guard = none) (hop : o.op = .buildSlice 155 4 #[(0, .tmp s0), (1, .tmp s1), (2, .tmp s2), (3, .tmp s3)]) (hd : o.dst = some j) (ht : (d, j, .inr (.inl [k0, k1, k2, k3])) ∈ slotTabR) (t0 : (d0, s0, .inl k0) ∈ slotTabR) (t1 : (d1, s1, .inl k1) ∈ slotTabR) (t2 : (d2, s2, .inl k2) ∈ slotTabR) (t3 : (d3, s3, .inl k3) ∈ slotTabR) (e0 : waitsOnR o d0 = true) (e1 : waitsOnR o d1 = true) (e2 : waitsOnR o d2 = true) (e3 : waitsOnR o d3 = true) : GOR W0 b1 b2 b3 b4 Q d o := by
  refine ⟨hg, fun listed a w hl hu hall hI K' hK => ?_⟩
  obtain ⟨v0, m0, g0, x0, y0, F0, u0, rfl, q0⟩ := hI.sl _ t0 (depR e0 hall)
  obtain ⟨v1, m1, g1, x1, y1, F1, u1, rfl, q1⟩ := hI.sl _ t1 (depR e1 hall)
  obtain ⟨v2, m2, g2, x2, y2, F2, u2, rfl, q2⟩ := hI.sl _ t2 (depR e2 hall)
  obtain ⟨v3, m3, g3, x3, y3, F3, u3, rfl, q3⟩ := hI.sl _ t3 (depR e3 hall)
  refine op_slice4 hop hd m0 m1 m2 m3 (hK _ _ (ti_putR hI hl ((Below.refl _ _).alloc (Nat.le_refl _) _) ht ⟨w.heap.size, rfl, ?_⟩))
  intro i K hi
  match i, hi with
  | 0, hi =>
    obtain rfl : K = k0 := by simpa using hi.symm
    exact ⟨g0, x0, y0, F0, u0, by rw [World.cell?_alloc_new]; rfl, by rw [World.cell?_alloc_new]; rfl, q0.kept (keptR_below ((Below.refl _ _).alloc (Nat.le_refl _) _))⟩
  | 1, hi =>
    obtain rfl : K = k1 := by simpa using hi.symm
    exact ⟨g1, x1, y1, F1, u1, by rw [World.cell?_alloc_new]; rfl, by rw [World.cell?_alloc_new]; rfl, q1.kept (keptR_below ((Below.refl _ _).alloc (Nat.le_refl _) _))⟩
  | 2, hi =>
    obtain rfl : K = k2 := by simpa using hi.symm
    exact ⟨g2, x2, y2, F2, u2, by rw [World.cell?_alloc_new]; rfl, by rw [World.cell?_alloc_new]; rfl, q2.kept (keptR_below ((Below.refl _ _).alloc (Nat.le_refl _) _))⟩
  | 3, hi =>
    obtain rfl : K = k3 := by simpa using hi.symm
    exact ⟨g3, x3, y3, F3, u3, by rw [World.cell?_alloc_new]; rfl, by rw [World.cell?_alloc_new]; rfl, q3.kept (keptR_below ((Below.refl _ _).alloc (Nat.le_refl _) _))⟩
  | i + 4, hi => simp at hi

theorem go_slice6R {d j d0 d1 d2 d3 d4 d5 s0 s1 s2 s3 s4 s5 k0 k1 k2 k3 k4 k5 : Nat} (hg : o.guard = none) (hop : o.op = .buildSlice 155 6 #[(0, .tmp s0), (1, .tmp s1), (2, .tmp s2), (3, .tmp s3), (4, .tmp s4), (5, .tmp s5)]) (hd : o.dst = some j) (ht : (d, j, .inr (.inl [k0, k1, k2, k3, k4, k5])) ∈ slotTabR) (t0 : (d0, s0, .inl k0) ∈ slotTabR) (t1 : (d1, s1, .inl k1) ∈ slotTabR) (t2 : (d2, s2, .inl k2) ∈ slotTabR) (t3 : (d3, s3, .inl k3) ∈ slotTabR) (t4 : (d4, s4, .inl k4) ∈ slotTabR) (t5 : (d5, s5, .inl k5) ∈ slotTabR) (e0 : waitsOnR o d0 = true) (e1 : waitsOnR o d1 = true) (e2 : waitsOnR o d2 = true) (e3 : waitsOnR o d3 = true) (e4 : waitsOnR o d4 = true) (e5 : waitsOnR o d5 = true) : GOR W0 b1 b2 b3 b4 Q d o := by
  refine ⟨hg, fun listed a w hl hu hall hI K' hK => ?_⟩
  obtain ⟨v0, m0, g0, x0, y0, F0, u0, rfl, q0⟩ := hI.sl _ t0 (depR e0 hall)
  obtain ⟨v1, m1, g1, x1, y1, F1, u1, rfl, q1⟩ := hI.sl _ t1 (depR e1 hall)
  obtain ⟨v2, m2, g2, x2, y2, F2, u2, rfl, q2⟩ := hI.sl _ t2 (depR e2 hall)
  obtain ⟨v3, m3, g3, x3, y3, F3, u3, rfl, q3⟩ := hI.sl _ t3 (depR e3 hall)
  obtain ⟨v4, m4, g4, x4, y4, F4, u4, rfl, q4⟩ := hI.sl _ t4 (depR e4 hall)
  obtain ⟨v5, m5, g5, x5, y5, F5, u5, rfl, q5⟩ := hI.sl _ t5 (depR e5 hall)
  refine op_slice6 hop hd m0 m1 m2 m3 m4 m5 (hK _ _ (ti_putR hI hl ((Below.refl _ _).alloc (Nat.le_refl _) _) ht ⟨w.heap.size, rfl, ?_⟩))
  intro i K hi
  match i, hi with
  | 0, hi =>
    obtain rfl : K = k0 := by simpa using hi.symm
    exact ⟨g0, x0, y0, F0, u0, by rw [World.cell?_alloc_new]; rfl, by rw [World.cell?_alloc_new]; rfl, q0.kept (keptR_below ((Below.refl _ _).alloc (Nat.le_refl _) _))⟩
  | 1, hi =>
    obtain rfl : K = k1 := by simpa using hi.symm
    exact ⟨g1, x1, y1, F1, u1, by rw [World.cell?_alloc_new]; rfl, by rw [World.cell?_alloc_new]; rfl, q1.kept (keptR_below ((Below.refl _ _).alloc (Nat.le_refl _) _))⟩
  | 2, hi =>
    obtain rfl : K = k2 := by simpa using hi.symm
    exact ⟨g2, x2, y2, F2, u2, by rw [World.cell?_alloc_new]; rfl, by rw [World.cell?_alloc_new]; rfl, q2.kept (keptR_below ((Below.refl _ _).alloc (Nat.le_refl _) _))⟩
  | 3, hi =>
    obtain rfl : K = k3 := by simpa using hi.symm
    exact ⟨g3, x3, y3, F3, u3, by rw [World.cell?_alloc_new]; rfl, by rw [World.cell?_alloc_new]; rfl, q3.kept (keptR_below ((Below.refl _ _).alloc (Nat.le_refl _) _))⟩
  | 4, hi =>
    obtain rfl : K = k4 := by simpa using hi.symm
    exact ⟨g4, x4, y4, F4, u4, by rw [World.cell?_alloc_new]; rfl, by rw [World.cell?_alloc_new]; rfl, q4.kept (keptR_below ((Below.refl _ _).alloc (Nat.le_refl _) _))⟩
  | 5, hi =>
    obtain rfl : K = k5 := by simpa using hi.symm
    exact ⟨g5, x5, y5, F5, u5, by rw [World.cell?_alloc_new]; rfl, by rw [World.cell?_alloc_new]; rfl, q5.kept (keptR_below ((Below.refl _ _).alloc (Nat.le_refl _) _))⟩
  | i + 6, hi => simp at hi

theorem go_slice7R {d j d0 d1 d2 d3 d4 d5 d6 s0 s1 s2 s3 s4 s5 s6 k0 k1 k2 k3 k4 k5 k6 : Nat} (hg : o.guard = none) (hop : o.op = .buildSlice 155 7 #[(0, .tmp s0), (1, .tmp s1), (2, .tmp s2), (3, .tmp s3), (4, .tmp s4), (5, .tmp s5), (6, .tmp s6)]) (hd : o.dst = some j) (ht : (d, j, .inr (.inl [k0, k1, k2, k3, k4, k5, k6])) ∈ slotTabR) (t0 : (d0, s0, .inl k0) ∈ slotTabR) (t1 : (d1, s1, .inl k1) ∈ slotTabR) (t2 : (d2, s2, .inl k2) ∈ slotTabR) (t3 : (d3, s3, .inl k3) ∈ slotTabR) (t4 : (d4, s4, .inl k4) ∈ slotTabR) (t5 : (d5, s5, .inl k5) ∈ slotTabR) (t6 : (d6, s6, .inl k6) ∈ slotTabR) (e0 : waitsOnR o d0 = true) (e1 : waitsOnR o d1 = true) (e2 : waitsOnR o d2 = true) (e3 : waitsOnR o d3 = true) (e4 : waitsOnR o d4 = true) (e5 : waitsOnR o d5 = true) (e6 : waitsOnR o d6 = true) : GOR W0 b1 b2 b3 b4 Q d o := by
  refine ⟨hg, fun listed a w hl hu hall hI K' hK => ?_⟩
  obtain ⟨v0, m0, g0, x0, y0, F0, u0, rfl, q0⟩ := hI.sl _ t0 (depR e0 hall)
  obtain ⟨v1, m1, g1, x1, y1, F1, u1, rfl, q1⟩ := hI.sl _ t1 (depR e1 hall)
  obtain ⟨v2, m2, g2, x2, y2, F2, u2, rfl, q2⟩ := hI.sl _ t2 (depR e2 hall)
  obtain ⟨v3, m3, g3, x3, y3, F3, u3, rfl, q3⟩ := hI.sl _ t3 (depR e3 hall)
  obtain ⟨v4, m4, g4, x4, y4, F4, u4, rfl, q4⟩ := hI.sl _ t4 (depR e4 hall)
  obtain ⟨v5, m5, g5, x5, y5, F5, u5, rfl, q5⟩ := hI.sl _ t5 (depR e5 hall)
  obtain ⟨v6, m6, g6, x6, y6, F6, u6, rfl, q6⟩ := hI.sl _ t6 (depR e6 hall)
  refine op_slice7 hop hd m0 m1 m2 m3 m4 m5 m6 (hK _ _ (ti_putR hI hl ((Below.refl _ _).alloc (Nat.le_refl _) _) ht ⟨w.heap.size, rfl, ?_⟩))
  intro i K hi
  match i, hi with
  | 0, hi =>
    obtain rfl : K = k0 := by simpa using hi.symm
    exact ⟨g0, x0, y0, F0, u0, by rw [World.cell?_alloc_new]; rfl, by rw [World.cell?_alloc_new]; rfl, q0.kept (keptR_below ((Below.refl _ _).alloc (Nat.le_refl _) _))⟩
  | 1, hi =>
    obtain rfl : K = k1 := by simpa using hi.symm
    exact ⟨g1, x1, y1, F1, u1, by rw [World.cell?_alloc_new]; rfl, by rw [World.cell?_alloc_new]; rfl, q1.kept (keptR_below ((Below.refl _ _).alloc (Nat.le_refl _) _))⟩
  | 2, hi =>
    obtain rfl : K = k2 := by simpa using hi.symm
    exact ⟨g2, x2, y2, F2, u2, by rw [World.cell?_alloc_new]; rfl, by rw [World.cell?_alloc_new]; rfl, q2.kept (keptR_below ((Below.refl _ _).alloc (Nat.le_refl _) _))⟩
  | 3, hi =>
    obtain rfl : K = k3 := by simpa using hi.symm
    exact ⟨g3, x3, y3, F3, u3, by rw [World.cell?_alloc_new]; rfl, by rw [World.cell?_alloc_new]; rfl, q3.kept (keptR_below ((Below.refl _ _).alloc (Nat.le_refl _) _))⟩
  | 4, hi =>
    obtain rfl : K = k4 := by simpa using hi.symm
    exact ⟨g4, x4, y4, F4, u4, by rw [World.cell?_alloc_new]; rfl, by rw [World.cell?_alloc_new]; rfl, q4.kept (keptR_below ((Below.refl _ _).alloc (Nat.le_refl _) _))⟩
  | 5, hi =>
    obtain rfl : K = k5 := by simpa using hi.symm
    exact ⟨g5, x5, y5, F5, u5, by rw [World.cell?_alloc_new]; rfl, by rw [World.cell?_alloc_new]; rfl, q5.kept (keptR_below ((Below.refl _ _).alloc (Nat.le_refl _) _))⟩
  | 6, hi =>
    obtain rfl : K = k6 := by simpa using hi.symm
    exact ⟨g6, x6, y6, F6, u6, by rw [World.cell?_alloc_new]; rfl, by rw [World.cell?_alloc_new]; rfl, q6.kept (keptR_below ((Below.refl _ _).alloc (Nat.le_refl _) _))⟩
  | i + 7, hi => simp at hi
end
end Go.Proofs.YtddabafaejahbaaGreatDoor
