import Derived.Test.YtilcbdhcojgcbaaJVfW
import Derived.Test.YtilcbdhcojgcbaaJSCheck
import Derived.Test.YtilcbdhcojgcbaaJSRd
import Derived.Test.YtilcbdhcojgcbaaJOrdL
import Derived.Test.YtilcbdhcojgcbaaJICp
import Derived.Test.YtilcbdhcojgcbaaJMath
/- spec.l13Options, spec.l13Count by their contracts. -/
namespace Go.Proofs.Ytilcbdhcojgcbaa
open Go.RowKit
set_option linter.unusedVariables false

def oStr : Value → Nat
  | .string s => s.size
  | _ => 0

theorem cell_newO (w : World) (cs : Array Value) (e : Nat) : ∀ (j : Nat) (u : Value), cs.toList[j]? = some u → (w.alloc (.cells cs e)).cell? ((⟨w.heap.size, 0, none⟩ : Addr).add j) = some u := by
  intro j u h
  rw [Nm.addr_add, Nat.zero_add]
  have : (w.alloc (.cells cs e)).heap[w.heap.size]? = some (.cells cs e (0, 0)) := by show (w.heap.push _)[w.heap.size]? = _; simp
  rw [cell_of_row _ _ _ _ _ _ this]
  simpa using h

/-- How many records have a type. -/
def cntR (xs : List Rr) (t : Int) : Nat := xs.countP (fun r => decide (r.ty = t))
theorem cnt_step {xs : List Rr} {k : Nat} {x : Rr} {t : Int} (h : xs[k]? = some x) : cntR (xs.take (k + 1)) t = cntR (xs.take k) t + (if x.ty = t then 1 else 0) := by
  rw [cntR, cntR, List.take_add_one, h]
  simp [List.countP_append, List.countP_cons]
theorem cnt_le (xs : List Rr) (t : Int) : cntR xs t ≤ xs.length := List.countP_le_length

set_option maxRecDepth 100000 in
set_option maxHeartbeats 1600000 in
theorem l13Count_any (v : Value) (xs : List Rr) (t : Int) (w : World) (h : CRow w v xs.length 5 (rvVs xs)) (hl : xs.length ≤ 1048576) :
    Calls Try.prog 16 #[v, .int .i64 t] w fun e w' => e = .returned (.int .i64 (cntR xs t : Int)) ∧ w' = w := by
  obtain ⟨_, a, cap, rfl, hcap, hmx, hc⟩ := h
  go_enter Try.func16, Try.ntmps16
  go_wp2
  go_loop [5, 6] (fun u i => ∃ k : Nat, k ≤ xs.length ∧ i = .int .i64 k ∧ u = .int .i64 (cntR (xs.take k) t : Int)) (fun _ i => xs.length - (intOf i).toNat)
  case atStart => exact ⟨0, Nat.zero_le _, rfl, rfl⟩
  case round =>
    obtain ⟨k, hk, rfl, rfl⟩ := hrel
    by_cases hlt : k < xs.length
    · obtain ⟨x, hx⟩ : ∃ x, xs[k]? = some x := ⟨_, List.getElem?_eq_getElem hlt⟩
      obtain ⟨b, off, rfl, hcell⟩ := hc (by omega)
      obtain ⟨_, c1, _⟩ := rv_cells hcell hx
      have hst := cnt_step (t := t) hx
      have hcl := cnt_le (xs.take k) t
      have hlk : (xs.take k).length ≤ xs.length := by rw [List.length_take]; omega
      have i1 : (0 : Int) ≤ (k : Int) := by omega
      have i2 : (k : Int) < (xs.length : Int) := by omega
      by_cases he : x.ty = t
      · rw [if_pos he] at hst
        have HST := Nm.hide hst
        have e1 : (x.ty == t) = true := by simpa using he
        have hcb : cntR (xs.take k) t ≤ 1048576 := by omega
        clear hcell hc hx hst he hcl hlk
        generalize cntR (xs.take k) t = C at *
        go_wp2
        go_round
        case rel => exact ⟨k + 1, by omega, by go_num, by rw [HST.out]; go_num⟩
        case measure => simp [intOf]; omega
      · rw [if_neg he, Nat.add_zero] at hst
        have HST := Nm.hide hst
        have e1 : (x.ty == t) = false := by simpa using he
        clear hcell hc hx hst he hcl hlk
        go_wp2
        go_round
        case rel => exact ⟨k + 1, by omega, by go_num, by rw [HST.out]; rfl⟩
        case measure => simp [intOf]; omega
    · have hkl : k = xs.length := by omega
      subst hkl
      rw [List.take_length]
      have i2 : ¬ (xs.length : Int) < (xs.length : Int) := by omega
      clear hc
      go_wp2
      go_ret
      exact ⟨rfl, rfl⟩

theorem Try.infoOpz2 : (Try.prog.info? 83).map (fun i => (i.zero, i.size, i.bytes)) = some (some (.agg #[.int .i64 0, .string ByteArray.empty]), 2, 24) := by kernel_rfl
theorem opVs_app (a b : List (Int × ByteArray)) : opVs (a ++ b) = opVs a ++ opVs b := by simp [opVs]
theorem ba_drop (S : ByteArray) (n : Nat) : (S.extract n S.size).data.toList = S.data.toList.drop n := by
  simp only [ByteArray.data_extract, Array.toList_extract, List.extract_eq_take_drop]
  exact List.take_of_length_le (by simp)
theorem ba_cut (S : ByteArray) (a b : Nat) : (S.extract a b).data.toList = (S.data.toList.drop a).take (b - a) := by
  simp only [ByteArray.data_extract, Array.toList_extract, List.extract_eq_take_drop]
theorem ba_of {S : ByteArray} {l : List UInt8} (h : S.data.toList = l) : S = ⟨l.toArray⟩ := by
  rw [← h]

theorem optA_enough : ∀ (f g : Nat) (acc : List (Int × ByteArray)) (l : List UInt8), l.length < f → l.length < g → optA f acc l = optA g acc l := by
  intro f
  induction f with
  | zero => intro g acc l h; omega
  | succ f ih =>
    intro g acc l h1 h2
    cases g with
    | zero => omega
    | succ g =>
      by_cases hn : l = []
      · rw [hn, optA_nil, optA_nil]
      · by_cases hb : l.length < 4 ∨ l.length < 4 + numL ((l.drop 2).take 2)
        · rw [optA_bad hn hb, optA_bad hn hb]
        · rw [optA_step hn hb, optA_step hn hb]
          exact ih g _ _ (by rw [List.length_drop]; omega) (by rw [List.length_drop]; omega)

/-- What spec.l13Options answers. -/
def OpPost (l : List UInt8) (w : World) (e : Ending) (w' : World) : Prop := (match optR l with
  | none => e = .returned (.tuple #[.slice none 0 0, .bool false])
  | some os => ∃ u, e = .returned (.tuple #[u, .bool true]) ∧ w'.ownsRow w.heap.size 83 2 u os.length (opVs os)) ∧ Below w.heap.size w w'

set_option maxRecDepth 100000 in
set_option maxHeartbeats 1600000 in
theorem l13Options_any (D : ByteArray) (w : World) (hD : D.size ≤ 1048576) :
    Calls Try.prog 17 #[.string D] w (OpPost D.data.toList w) := by
  obtain ⟨i0, hi, hz0, hz1, hz2⟩ := info_parts Try.infoOpz2
  obtain ⟨RES, HRES⟩ : ∃ R, Hid (R = optR D.data.toList) := ⟨_, rfl⟩
  have hro := World.ownsRow_made (base := w.heap.size) (size := 2) (e := 83) w #[] 0 (by simp) (by decide) rfl
  have hB0 := (Below.refl w.heap.size w).alloc (Nat.le_refl _) (.cells #[] 83)
  have hDl : D.data.toList.length = D.size := by simp
  have HR0 : Hid (optA (D.size + 1) [] D.data.toList = RES) := by show _ = _; rw [HRES.out, optR, hDl]
  have hnum := fun (s : ByteArray) (hs : s.size ≤ 6) W => l02Num_any s W hs
  clear hDl
  go_enter Try.func17, Try.ntmps17
  go_wp2
  go_loopw [0, 4] (fun s u wr => ∃ (S : ByteArray) (acc : List (Int × ByteArray)), s = .string S ∧ acc.length + S.size ≤ D.size ∧ Hid (optA (S.size + 1) acc S.data.toList = RES) ∧ wr.ownsRow w.heap.size 83 2 u acc.length (opVs acc) ∧ Below w.heap.size w wr) (fun s _ _ => oStr s)
  case atStart => exact ⟨D, [], rfl, by simp, HR0, hro, hB0⟩
  case round =>
    obtain ⟨S, acc, rfl, hb, HR, hown, hbel⟩ := hrel
    clear hro hB0 HR0
    have hSl : S.data.toList.length = S.size := by simp
    by_cases h0 : S.size = 0
    · obtain ⟨e1, e2⟩ := beq_empty h0
      have HE : Hid (RES = some acc) := by
        show _ = _
        have hnil : S.data.toList = [] := List.length_eq_zero_iff.1 (by omega)
        rw [← HR.out, hnil, optA_nil]
      clear hSl h0 hnum
      go_wp2
      go_ret2
      refine ⟨?_, hbel⟩
      rw [← HRES.out, HE.out]
      exact ⟨_, rfl, hown⟩
    · obtain ⟨e1, e2⟩ := not_empty (s := S) (by omega)
      have hnn : S.data.toList ≠ [] := fun e => h0 (by rw [← hSl, e]; rfl)
      by_cases h4 : S.size < 4
      · have HE : Hid (RES = none) := by
          show _ = _
          rw [← HR.out, optA_bad hnn (.inl (by omega))]
        have h4' : (S.size : Int) < 4 := by omega
        clear hSl h0 hnum hnn
        go_wp2
        go_ret2
        refine ⟨?_, hbel⟩
        rw [← HRES.out, HE.out]
        rfl
      · obtain ⟨N, hN⟩ : ∃ N, N = numL ((S.data.toList.drop 2).take 2) := ⟨_, rfl⟩
        have hN16 : N < 65536 := by
          have h1 := numL_lt ((S.data.toList.drop 2).take 2)
          have h2 : ((S.data.toList.drop 2).take 2).length ≤ 2 := by simp; omega
          have h3 : 256 ^ ((S.data.toList.drop 2).take 2).length ≤ 256 ^ 2 := Nat.pow_le_pow_right (by decide) h2
          omega
        have hn1 := hnum (S.extract 2 4) (by rw [ByteArray.size_extract]; omega)
        rw [ba_cut, ← hN] at hn1
        have h4' : ¬ (S.size : Int) < 4 := by omega
        have q4 : (4 : Int) ≤ (S.size : Int) := by omega
        have q2 : (2 : Int) ≤ (S.size : Int) := by omega
        by_cases hbig : S.size < 4 + N
        · have HE : Hid (RES = none) := by
            show _ = _
            rw [← HR.out, optA_bad hnn (.inr (by rw [← hN]; omega))]
          have hb1 : (S.size : Int) - 4 < (N : Int) := by omega
          clear hSl h0 hnum hnn hN
          go_wp2_with (go_at_call 13; refine (hn1 _).mono ?_; rintro e wf ⟨rfl, hw⟩; obtain rfl := hw.symm; clear hw)
          go_ret2
          refine ⟨?_, hbel⟩
          rw [← HRES.out, HE.out]
          rfl
        · have hb1 : ¬ (S.size : Int) - 4 < (N : Int) := by omega
          have hstep := optA_step (f := S.size) (acc := acc) hnn (by rw [← hN]; omega)
          rw [HR.out, ← hN] at hstep
          obtain ⟨M, hM⟩ : ∃ M, M = 4 + N := ⟨_, rfl⟩
          rw [← hM] at hstep
          have hn2 := hnum (S.extract 0 2) (by rw [ByteArray.size_extract]; omega)
          rw [ba_cut, List.drop_zero] at hn2
          obtain ⟨C, hC⟩ : ∃ C, C = numL (S.data.toList.take 2) := ⟨_, rfl⟩
          rw [← hC] at hn2 hstep
          have eX : (⟨((S.data.toList.drop 4).take N).toArray⟩ : ByteArray) = S.extract 4 M := by
            have e : M - 4 = N := by omega
            have := ba_of (ba_cut S 4 M)
            rw [e] at this
            exact this.symm
          rw [eX] at hstep
          obtain ⟨X, hX⟩ : ∃ X, X = S.extract 4 M := ⟨_, rfl⟩
          rw [← hX] at hstep
          obtain ⟨S2, hS2⟩ : ∃ X, X = S.extract M S.size := ⟨_, rfl⟩
          have hS2z : S2.size = S.size - M := by rw [hS2, ByteArray.size_extract]; omega
          have HR2 : Hid (optA (S2.size + 1) (acc ++ [((C : Int), X)]) S2.data.toList = RES) := by
            show _ = _
            rw [hstep, hS2, ba_drop]
            refine optA_enough _ _ _ _ ?_ ?_
            · rw [List.length_drop, ByteArray.size_extract]; omega
            · rw [List.length_drop]; omega
          have hw4 : (4 : Int) + (N : Int) = (M : Int) := by omega
          have hM1 : (4 : Int) ≤ (M : Int) := by omega
          have hM2 : (M : Int) ≤ (S.size : Int) := by omega
          have HS2z := Nm.hide hS2z
          have HXx := Nm.hide (And.intro hX hS2)
          have HM := Nm.hide hM
          clear hSl h0 hnn hN hC eX hX hS2 hS2z hM hstep HR
          obtain ⟨ya, yc, rfl⟩ := own_sl hown
          have hrow : ∀ q, Value.ownBlock (.slice ya acc.length yc) = some q → w.heap.size ≤ q := fun q hq => (hown.lt q hq).1
          go_wp2_with (go_at_call 13; refine (hn1 _).mono ?_; rintro e wf ⟨rfl, hw⟩; obtain rfl := hw.symm; clear hw)
          have hbd := hbel.drew
          have ho1 := own_below hown (Below.refl _ wr).drew
          have hsz := hbel.size
          refine wp_region_last (S := fun W => True) (L := 1000) (by kernel_rfl) trivial (fun hH => ?_)
          refine wpAnyL_take (i := 0) (v := ?_) rfl (by kernel_rfl) (by kernel_rfl) (by kernel_rfl) (by kernel_rfl) (fun _ _ _ h => h) (Or.inl ⟨by rfl, ?_⟩) (by assumption) ?_
          rotate_left 1
          · (intro w hSw; go_simp; try (with_reducible rfl))
          refine wpAnyL_take (i := 1) (v := ?_) rfl (by kernel_rfl) (by kernel_rfl) (by kernel_rfl) (by kernel_rfl) (fun _ _ _ h => h) (Or.inl ⟨by rfl, ?_⟩) (by assumption) ?_
          rotate_left 1
          · (intro w hSw; go_simp; try (with_reducible rfl))
          refine wpAnyL_take (i := 2) (v := ?_) rfl (by kernel_rfl) (by kernel_rfl) (by kernel_rfl) (by kernel_rfl) (fun _ _ _ h => h) (Or.inl ⟨by rfl, ?_⟩) (by assumption) ?_
          rotate_left 1
          · (intro w hSw; go_simp; try (with_reducible rfl))
          refine wpAnyL_take (i := 4) (v := ?_) rfl (by kernel_rfl) (by kernel_rfl) (by kernel_rfl) (by kernel_rfl) (fun _ _ _ h => h) (Or.inl ⟨by rfl, ?_⟩) (by assumption) ?_
          rotate_left 1
          · (intro w hSw; go_simp; try (with_reducible rfl))
          refine wpAnyL_take (i := 5) (v := ?_) rfl (by kernel_rfl) (by kernel_rfl) (by kernel_rfl) (by kernel_rfl) (fun _ _ _ h => h) (Or.inl ⟨by rfl, ?_⟩) (by assumption) ?_
          rotate_left 1
          · (intro w hSw; go_simp; try (with_reducible rfl))
          refine wpAnyL_take (i := 6) (v := ?_) rfl (by kernel_rfl) (by kernel_rfl) (by kernel_rfl) (by kernel_rfl) (fun _ _ _ h => h) (Or.inl ⟨by rfl, ?_⟩) (by assumption) ?_
          rotate_left 1
          · (intro w hSw; go_simp; try (with_reducible rfl))
          rw [← HXx.out.1]
          refine wpAnyL_one (i := 3) (by kernel_rfl) rfl (fun K hK' => ?_)
          go_simp
          refine (hn2 _).mono ?_
          rintro e w8 ⟨rfl, hw8⟩
          subst hw8
          go_wp2_with fail
          refine hK'.out _ _ trivial (fun hH => ?_)
          clear hK' K
          refine wpAnyL_take (i := 7) (v := ?_) rfl (by kernel_rfl) (by kernel_rfl) (by kernel_rfl) (by kernel_rfl) (fun _ _ _ h => h) (Or.inl ⟨by rfl, ?_⟩) (by assumption) ?_
          rotate_left 1
          · (intro w hSw; go_simp; try (with_reducible rfl))
          refine wpAnyL_one (i := 8) (by kernel_rfl) rfl (fun K hK' => ?_)
          go_simp
          have ho2 := own_below ho1 ((Below.refl _ wr.drew).alloc (Nat.le_refl _) (.cells #[.int .i64 (C : Int), .string X] 83))
          have hb2 := hbd.alloc hbd.size (.cells #[.int .i64 (C : Int), .string X] 83)
          refine hK'.out _ _ trivial (fun hH => ?_)
          clear hK' K
          refine wpAnyL_one (i := 9) (by kernel_rfl) rfl (fun K hK' => ?_)
          refine step_append_own rfl (.tmp 25) (.tmp 33) 38 rfl w.heap.size 83 i0 _ 2 24 Try.underlying38 hi hz0 hz1 hz2 rfl (by decide) (.slice ya acc.length yc) acc.length (opVs acc) (by rfl) ho2 ⟨wr.drew.heap.size, 0, none⟩ 1 1 [.int .i64 (C : Int), .string X] (by rfl) rfl (cell_newO _ _ _) (by intro u hu; simp at hu; rcases hu with rfl | rfl <;> rfl) (by unfold maxLen; omega) (by omega) hb2.size ?_
          intro va wa hown9 hgrow9 hnl9
          clear hnl9
          have hown10 : wa.ownsRow w.heap.size 83 2 va (acc ++ [((C : Int), X)]).length (opVs (acc ++ [((C : Int), X)])) := by
            rw [opVs_app, List.length_append]
            exact hown9
          have hb9 := hb2.grown hgrow9 hb2.size hrow
          obtain ⟨za, zc, rfl⟩ := own_sl hown10
          refine hK'.out _ _ trivial (fun hH => ?_)
          clear hK' K hown9 hgrow9 ho2 hb2 ho1 hbd hown hbel
          refine wpAnyL_take (i := 10) (v := ?_) rfl (by kernel_rfl) (by kernel_rfl) (by kernel_rfl) (by kernel_rfl) (fun _ _ _ h => h) (Or.inl ⟨by rfl, ?_⟩) (by assumption) ?_
          rotate_left 1
          · (intro w hSw; go_simp; try (with_reducible rfl))
          refine wpAnyL_done (by kernel_rfl) ?_
          clear hH
          go_wp2
          rw [← HXx.out.2]
          go_roundw
          case rel => exact ⟨S2, acc ++ [((C : Int), X)], rfl, by rw [List.length_append, HS2z.out, HM.out]; simp; omega, HR2, by rw [show (acc ++ [((C : Int), X)]).length = acc.length + 1 by simp] at hown10 ⊢; exact hown10, hb9⟩
          case measure => show S2.size < S.size; rw [HS2z.out, HM.out]; omega
end Go.Proofs.Ytilcbdhcojgcbaa
/- Questions as they come in: mathematics. -/
namespace Go.Proofs.Ytilcbdhcojgcbaa
open Go.RowKit
set_option linter.unusedVariables false

/-- A question: its name, type and class. -/
structure Qr where
  nm : ByteArray
  ty : Int
  cl : Int

def qvV (r : Qr) : List Value := [.string r.nm, .int .i64 r.ty, .int .i64 r.cl]
def qvVs (xs : List Qr) : List Value := xs.flatMap qvV
theorem qvVs_cons (x : Qr) (xs : List Qr) : qvVs (x :: xs) = qvV x ++ qvVs xs := by simp [qvVs]
theorem qvVs_app (a b : List Qr) : qvVs (a ++ b) = qvVs a ++ qvVs b := by simp [qvVs]
theorem qvVs_len (xs : List Qr) : (qvVs xs).length = xs.length * 3 := by
  induction xs with
  | nil => rfl
  | cons x xs ih =>
    have : (qvV x).length = 3 := rfl
    rw [qvVs_cons, List.length_append, ih, List.length_cons, this]; omega

theorem qvVs_at : ∀ (xs : List Qr) (k j : Nat) (x : Qr), xs[k]? = some x → j < 3 → (qvVs xs)[k * 3 + j]? = (qvV x)[j]? := by
  intro xs
  induction xs with
  | nil => intro k j x h; simp at h
  | cons y xs ih =>
    intro k j x h hj
    have hl : (qvV y).length = 3 := rfl
    cases k with
    | zero =>
      simp at h; subst h
      rw [qvVs_cons, Nat.zero_mul, Nat.zero_add, List.getElem?_append_left (by omega)]
    | succ k =>
      simp at h
      rw [qvVs_cons, List.getElem?_append_right (by omega), hl, show (k + 1) * 3 + j - 3 = k * 3 + j by omega]
      exact ih k j x h hj

theorem qv_cells {w : World} {xs : List Qr} {b off k : Nat} {x : Qr} (hc : ∀ (i : Nat) (y : Value), (qvVs xs)[i]? = some y → w.cell? ⟨b, off + i, none⟩ = some y) (h : xs[k]? = some x) :
    w.cell? ⟨b, off + k * 3, none⟩ = some (.string x.nm) ∧ w.cell? ⟨b, off + k * 3 + 1, none⟩ = some (.int .i64 x.ty) ∧ w.cell? ⟨b, off + k * 3 + 2, none⟩ = some (.int .i64 x.cl) :=
  ⟨hc (k * 3) _ ((qvVs_at xs k 0 x h (by decide)).trans rfl), hc (k * 3 + 1) _ ((qvVs_at xs k 1 x h (by decide)).trans rfl), hc (k * 3 + 2) _ ((qvVs_at xs k 2 x h (by decide)).trans rfl)⟩

def qsum : List Qr → Nat
  | [] => 0
  | x :: xs => x.nm.size + qsum xs
theorem qsum_step : ∀ (xs : List Qr) (k : Nat) (x : Qr), xs[k]? = some x → qsum (xs.take (k + 1)) = qsum (xs.take k) + x.nm.size := by
  intro xs
  induction xs with
  | nil => intro k x h; simp at h
  | cons y xs ih =>
    intro k x h
    cases k with
    | zero => simp at h; subst h; simp [qsum]
    | succ k =>
      simp at h
      have := ih k x h
      simp only [List.take_succ_cons, qsum]; omega
theorem qsum_take_le : ∀ (xs : List Qr) (k : Nat), qsum (xs.take k) ≤ qsum xs := by
  intro xs
  induction xs with
  | nil => intro k; simp [qsum]
  | cons y xs ih =>
    intro k
    cases k with
    | zero => simp [qsum]
    | succ k => have := ih k; simp only [List.take_succ_cons, qsum]; omega
theorem qsum_mem : ∀ (xs : List Qr) (x : Qr), x ∈ xs → x.nm.size ≤ qsum xs := by
  intro xs
  induction xs with
  | nil => intro x h; simp at h
  | cons y xs ih =>
    intro x h
    rcases List.mem_cons.1 h with rfl | h
    · simp only [qsum]; omega
    · have := ih x h; simp only [qsum]; omega
def szQS (xs : List Qr) (L : Int) : Int := if (xs.length : Int) + (qsum xs : Int) ≤ L then L - xs.length - qsum xs else -1
end Go.Proofs.Ytilcbdhcojgcbaa
/- Messages as they come in: mathematics. -/
namespace Go.Proofs.Ytilcbdhcojgcbaa
open Go.RowKit
set_option linter.unusedVariables false

/-- A head. -/
structure Hr where
  id : Int
  qr : Bool
  op : Int
  aa : Bool
  tc : Bool
  rd : Bool
  ra : Bool
  z : Bool
  ad : Bool
  cd : Bool
  code : Int
def hrV (h : Hr) : List Value := [.int .i64 h.id, .bool h.qr, .int .i64 h.op, .bool h.aa, .bool h.tc, .bool h.rd, .bool h.ra, .bool h.z, .bool h.ad, .bool h.cd, .int .i64 h.code]
/-- A message. -/
structure Mg where
  hd : Hr
  qs : List Qr
  an : List Rr
  au : List Rr
  ex : List Rr
/-- A message's value, its lists' slices as they are. -/
def mgV (h : Hr) (q a u x : Value) : Array Value := #[.int .i64 h.id, .bool h.qr, .int .i64 h.op, .bool h.aa, .bool h.tc, .bool h.rd, .bool h.ra, .bool h.z, .bool h.ad, .bool h.cd, .int .i64 h.code, q, a, u, x]
/-- The lists are read where the slices lead. -/
structure MRow (w : World) (m : Mg) (q a u x : Value) : Prop where
  rq : CRow w q m.qs.length 3 (qvVs m.qs)
  ra : CRow w a m.an.length 5 (rvVs m.an)
  ru : CRow w u m.au.length 5 (rvVs m.au)
  rx : CRow w x m.ex.length 5 (rvVs m.ex)
theorem MRow.below {w W : World} {m : Mg} {q a u x : Value} (h : MRow w m q a u x) (hb : Below w.heap.size w W) : MRow W m q a u x := ⟨h.rq.below hb, h.ra.below hb, h.ru.below hb, h.rx.below hb⟩
/-- The lists in memory of one's own. -/
structure MOwn (w : World) (B : Nat) (m : Mg) (q a u x : Value) : Prop where
  rq : w.ownsRow B 79 3 q m.qs.length (qvVs m.qs)
  ra : w.ownsRow B 56 5 a m.an.length (rvVs m.an)
  ru : w.ownsRow B 56 5 u m.au.length (rvVs m.au)
  rx : w.ownsRow B 56 5 x m.ex.length (rvVs m.ex)
theorem MOwn.below {w W : World} {B : Nat} {m : Mg} {q a u x : Value} (h : MOwn w B m q a u x) (hb : Below w.heap.size w W) : MOwn W B m q a u x := ⟨own_below h.rq hb, own_below h.ra hb, own_below h.ru hb, own_below h.rx hb⟩
theorem MOwn.read {w : World} {B : Nat} {m : Mg} {q a u x : Value} (h : MOwn w B m q a u x) : MRow w m q a u x := ⟨CRow.of_owns h.rq, CRow.of_owns h.ra, CRow.of_owns h.ru, CRow.of_owns h.rx⟩
def msum (m : Mg) : Nat := m.qs.length + qsum m.qs + (m.an.length + rsum m.an) + (m.au.length + rsum m.au) + (m.ex.length + rsum m.ex)
def szM (m : Mg) (L : Int) : Int := if (msum m : Int) ≤ L then L - msum m else -1
def MFit (m : Mg) : Prop := (∀ r ∈ m.qs, r.nm.size ≤ maxLen) ∧ (∀ r ∈ m.an, r.own.size ≤ maxLen ∧ r.da.size ≤ maxLen) ∧ (∀ r ∈ m.au, r.own.size ≤ maxLen ∧ r.da.size ≤ maxLen) ∧ (∀ r ∈ m.ex, r.own.size ≤ maxLen ∧ r.da.size ≤ maxLen)
end Go.Proofs.Ytilcbdhcojgcbaa
