import Derived.Test.YtinbaopcapnbgaaEoM
import Derived.Test.YtinbaopcapnbgaaData4
import Derived.Test.YtinbaopcapnbgaaJStpA
import Derived.Test.YtinbaopcapnbgaaSgR
import Derived.Test.YtinbaopcapnbgaaOrdM
import Derived.Test.YtinbaopcapnbgaaJDataM
import Derived.Test.YtinbaopcapnbgaaRrM
/- spec.l13Options, spec.l13Count by their contracts. -/
namespace Go.Proofs.Ytinbaopcapnbgaa
open Go.RowKit
set_option linter.unusedVariables false

def oStr : Value → Nat
  | .string s => s.size
  | _ => 0

theorem cell_newO (w : World) (cs : Array Value) (e : Nat) : ∀ (j : Nat) (u : Value), cs.toList[j]? = some u → (w.alloc (.cells cs e)).cell? ((⟨w.heap.size, 0, none⟩ : Addr).add j) = some u := by
  intro j u h
  rw [Nm.addr_add, Nat.zero_add]
  have : (w.alloc (.cells cs e)).heap[w.heap.size]? = some (.cells cs e (0, 0)) := by show (w.heap.push _)[w.heap.size]? = _; simp
  rw [cell_of_row _ _ _ _ _ _ this]
  simpa using h

/-- How many records have a type. -/
def cntR (xs : List Rr) (t : Int) : Nat := xs.countP (fun r => decide (r.ty = t))
theorem cnt_step {xs : List Rr} {k : Nat} {x : Rr} {t : Int} (h : xs[k]? = some x) : cntR (xs.take (k + 1)) t = cntR (xs.take k) t + (if x.ty = t then 1 else 0) := by
  rw [cntR, cntR, List.take_add_one, h]
  simp [List.countP_append, List.countP_cons]
theorem cnt_le (xs : List Rr) (t : Int) : cntR xs t ≤ xs.length := List.countP_le_length

set_option maxRecDepth 100000 in
set_option maxHeartbeats 1600000 in
theorem l13Count_any (v : Value) (xs : List Rr) (t : Int) (w : World) (h : CRow w v xs.length 5 (rvVs xs)) (hl : xs.length ≤ 1048576) :
    Calls Try.prog 29 #[v, .int .i64 t] w fun e w' => e = .returned (.int .i64 (cntR xs t : Int)) ∧ w' = w := by
  obtain ⟨_, a, cap, rfl, hcap, hmx, hc⟩ := h
  go_enter Try.func29, Try.ntmps29
  go_wp2
  go_loop [5, 6] (fun u i => ∃ k : Nat, k ≤ xs.length ∧ i = .int .i64 k ∧ u = .int .i64 (cntR (xs.take k) t : Int)) (fun _ i => xs.length - (intOf i).toNat)
  case atStart => exact ⟨0, Nat.zero_le _, rfl, rfl⟩
  case round =>
    obtain ⟨k, hk, rfl, rfl⟩ := hrel
    by_cases hlt : k < xs.length
    · obtain ⟨x, hx⟩ : ∃ x, xs[k]? = some x := ⟨_, List.getElem?_eq_getElem hlt⟩
      obtain ⟨b, off, rfl, hcell⟩ := hc (by omega)
      obtain ⟨_, c1, _⟩ := rv_cells hcell hx
      have hst := cnt_step (t := t) hx
      have hcl := cnt_le (xs.take k) t
      have hlk : (xs.take k).length ≤ xs.length := by rw [List.length_take]; omega
      have i1 : (0 : Int) ≤ (k : Int) := by omega
      have i2 : (k : Int) < (xs.length : Int) := by omega
      by_cases he : x.ty = t
      · rw [if_pos he] at hst
        have HST := Nm.hide hst
        have e1 : (x.ty == t) = true := by simpa using he
        have hcb : cntR (xs.take k) t ≤ 1048576 := by omega
        clear hcell hc hx hst he hcl hlk
        generalize cntR (xs.take k) t = C at *
        go_wp2
        go_round
        case rel => exact ⟨k + 1, by omega, by go_num, by rw [HST.out]; go_num⟩
        case measure => simp [intOf]; omega
      · rw [if_neg he, Nat.add_zero] at hst
        have HST := Nm.hide hst
        have e1 : (x.ty == t) = false := by simpa using he
        clear hcell hc hx hst he hcl hlk
        go_wp2
        go_round
        case rel => exact ⟨k + 1, by omega, by go_num, by rw [HST.out]; rfl⟩
        case measure => simp [intOf]; omega
    · have hkl : k = xs.length := by omega
      subst hkl
      rw [List.take_length]
      have i2 : ¬ (xs.length : Int) < (xs.length : Int) := by omega
      clear hc
      go_wp2
      go_ret
      exact ⟨rfl, rfl⟩

theorem Try.infoOpz2 : (Try.prog.info? 60).map (fun i => (i.zero, i.size, i.bytes)) = some (some (.agg #[.int .i64 0, .string ByteArray.empty]), 2, 24) := by kernel_rfl
theorem opVs_app (a b : List (Int × ByteArray)) : opVs (a ++ b) = opVs a ++ opVs b := by simp [opVs]
theorem ba_drop (S : ByteArray) (n : Nat) : (S.extract n S.size).data.toList = S.data.toList.drop n := by
  simp only [ByteArray.data_extract, Array.toList_extract, List.extract_eq_take_drop]
  exact List.take_of_length_le (by simp)
theorem ba_cut (S : ByteArray) (a b : Nat) : (S.extract a b).data.toList = (S.data.toList.drop a).take (b - a) := by
  simp only [ByteArray.data_extract, Array.toList_extract, List.extract_eq_take_drop]
theorem ba_of {S : ByteArray} {l : List UInt8} (h : S.data.toList = l) : S = ⟨l.toArray⟩ := by
  rw [← h]

theorem optA_enough : ∀ (f g : Nat) (acc : List (Int × ByteArray)) (l : List UInt8), l.length < f → l.length < g → optA f acc l = optA g acc l := by
  intro f
  induction f with
  | zero => intro g acc l h; omega
  | succ f ih =>
    intro g acc l h1 h2
    cases g with
    | zero => omega
    | succ g =>
      by_cases hn : l = []
      · rw [hn, optA_nil, optA_nil]
      · by_cases hb : l.length < 4 ∨ l.length < 4 + numL ((l.drop 2).take 2)
        · rw [optA_bad hn hb, optA_bad hn hb]
        · rw [optA_step hn hb, optA_step hn hb]
          exact ih g _ _ (by rw [List.length_drop]; omega) (by rw [List.length_drop]; omega)

/-- What spec.l13Options answers. -/
def OpPost (l : List UInt8) (w : World) (e : Ending) (w' : World) : Prop := (match optR l with
  | none => e = .returned (.tuple #[.slice none 0 0, .bool false])
  | some os => ∃ u, e = .returned (.tuple #[u, .bool true]) ∧ w'.ownsRow w.heap.size 60 2 u os.length (opVs os)) ∧ Below w.heap.size w w'

set_option maxRecDepth 100000 in
set_option maxHeartbeats 1600000 in
theorem l13Options_any (D : ByteArray) (w : World) (hD : D.size ≤ 1048576) :
    Calls Try.prog 30 #[.string D] w (OpPost D.data.toList w) := by
  obtain ⟨i0, hi, hz0, hz1, hz2⟩ := info_parts Try.infoOpz2
  obtain ⟨RES, HRES⟩ : ∃ R, Hid (R = optR D.data.toList) := ⟨_, rfl⟩
  have hro := World.ownsRow_made (base := w.heap.size) (size := 2) (e := 60) w #[] 0 (by simp) (by decide) rfl
  have hB0 := (Below.refl w.heap.size w).alloc (Nat.le_refl _) (.cells #[] 60)
  have hDl : D.data.toList.length = D.size := by simp
  have HR0 : Hid (optA (D.size + 1) [] D.data.toList = RES) := by show _ = _; rw [HRES.out, optR, hDl]
  have hnum := fun (s : ByteArray) (hs : s.size ≤ 6) W => l02Num_any s W hs
  clear hDl
  go_enter Try.func30, Try.ntmps30
  go_wp2
  go_loopw [0, 4] (fun s u wr => ∃ (S : ByteArray) (acc : List (Int × ByteArray)), s = .string S ∧ acc.length + S.size ≤ D.size ∧ Hid (optA (S.size + 1) acc S.data.toList = RES) ∧ wr.ownsRow w.heap.size 60 2 u acc.length (opVs acc) ∧ Below w.heap.size w wr) (fun s _ _ => oStr s)
  case atStart => exact ⟨D, [], rfl, by simp, HR0, hro, hB0⟩
  case round =>
    obtain ⟨S, acc, rfl, hb, HR, hown, hbel⟩ := hrel
    clear hro hB0 HR0
    have hSl : S.data.toList.length = S.size := by simp
    by_cases h0 : S.size = 0
    · obtain ⟨e1, e2⟩ := beq_empty h0
      have HE : Hid (RES = some acc) := by
        show _ = _
        have hnil : S.data.toList = [] := List.length_eq_zero_iff.1 (by omega)
        rw [← HR.out, hnil, optA_nil]
      clear hSl h0 hnum
      go_wp2
      go_ret2
      refine ⟨?_, hbel⟩
      rw [← HRES.out, HE.out]
      exact ⟨_, rfl, hown⟩
    · obtain ⟨e1, e2⟩ := not_empty (s := S) (by omega)
      have hnn : S.data.toList ≠ [] := fun e => h0 (by rw [← hSl, e]; rfl)
      by_cases h4 : S.size < 4
      · have HE : Hid (RES = none) := by
          show _ = _
          rw [← HR.out, optA_bad hnn (.inl (by omega))]
        have h4' : (S.size : Int) < 4 := by omega
        clear hSl h0 hnum hnn
        go_wp2
        go_ret2
        refine ⟨?_, hbel⟩
        rw [← HRES.out, HE.out]
        rfl
      · obtain ⟨N, hN⟩ : ∃ N, N = numL ((S.data.toList.drop 2).take 2) := ⟨_, rfl⟩
        have hN16 : N < 65536 := by
          have h1 := numL_lt ((S.data.toList.drop 2).take 2)
          have h2 : ((S.data.toList.drop 2).take 2).length ≤ 2 := by simp; omega
          have h3 : 256 ^ ((S.data.toList.drop 2).take 2).length ≤ 256 ^ 2 := Nat.pow_le_pow_right (by decide) h2
          omega
        have hn1 := hnum (S.extract 2 4) (by rw [ByteArray.size_extract]; omega)
        rw [ba_cut, ← hN] at hn1
        have h4' : ¬ (S.size : Int) < 4 := by omega
        have q4 : (4 : Int) ≤ (S.size : Int) := by omega
        have q2 : (2 : Int) ≤ (S.size : Int) := by omega
        by_cases hbig : S.size < 4 + N
        · have HE : Hid (RES = none) := by
            show _ = _
            rw [← HR.out, optA_bad hnn (.inr (by rw [← hN]; omega))]
          have hb1 : (S.size : Int) - 4 < (N : Int) := by omega
          clear hSl h0 hnum hnn hN
          go_wp2_with (go_at_call 51; refine (hn1 _).mono ?_; rintro e wf ⟨rfl, hw⟩; obtain rfl := hw.symm; clear hw)
          go_ret2
          refine ⟨?_, hbel⟩
          rw [← HRES.out, HE.out]
          rfl
        · have hb1 : ¬ (S.size : Int) - 4 < (N : Int) := by omega
          have hstep := optA_step (f := S.size) (acc := acc) hnn (by rw [← hN]; omega)
          rw [HR.out, ← hN] at hstep
          obtain ⟨M, hM⟩ : ∃ M, M = 4 + N := ⟨_, rfl⟩
          rw [← hM] at hstep
          have hn2 := hnum (S.extract 0 2) (by rw [ByteArray.size_extract]; omega)
          rw [ba_cut, List.drop_zero] at hn2
          obtain ⟨C, hC⟩ : ∃ C, C = numL (S.data.toList.take 2) := ⟨_, rfl⟩
          rw [← hC] at hn2 hstep
          have eX : (⟨((S.data.toList.drop 4).take N).toArray⟩ : ByteArray) = S.extract 4 M := by
            have e : M - 4 = N := by omega
            have := ba_of (ba_cut S 4 M)
            rw [e] at this
            exact this.symm
          rw [eX] at hstep
          obtain ⟨X, hX⟩ : ∃ X, X = S.extract 4 M := ⟨_, rfl⟩
          rw [← hX] at hstep
          obtain ⟨S2, hS2⟩ : ∃ X, X = S.extract M S.size := ⟨_, rfl⟩
          have hS2z : S2.size = S.size - M := by rw [hS2, ByteArray.size_extract]; omega
          have HR2 : Hid (optA (S2.size + 1) (acc ++ [((C : Int), X)]) S2.data.toList = RES) := by
            show _ = _
            rw [hstep, hS2, ba_drop]
            refine optA_enough _ _ _ _ ?_ ?_
            · rw [List.length_drop, ByteArray.size_extract]; omega
            · rw [List.length_drop]; omega
          have hw4 : (4 : Int) + (N : Int) = (M : Int) := by omega
          have hM1 : (4 : Int) ≤ (M : Int) := by omega
          have hM2 : (M : Int) ≤ (S.size : Int) := by omega
          have HS2z := Nm.hide hS2z
          have HXx := Nm.hide (And.intro hX hS2)
          have HM := Nm.hide hM
          clear hSl h0 hnn hN hC eX hX hS2 hS2z hM hstep HR
          obtain ⟨ya, yc, rfl⟩ := own_sl hown
          have hrow : ∀ q, Value.ownBlock (.slice ya acc.length yc) = some q → w.heap.size ≤ q := fun q hq => (hown.lt q hq).1
          go_wp2_with (go_at_call 51; refine (hn1 _).mono ?_; rintro e wf ⟨rfl, hw⟩; obtain rfl := hw.symm; clear hw)
          have hbd := hbel.drew
          have ho1 := own_below hown (Below.refl _ wr).drew
          have hsz := hbel.size
          refine wp_region_last (S := fun W => True) (L := 1000) (by kernel_rfl) trivial (fun hH => ?_)
          refine wpAnyL_take (i := 0) (v := ?_) rfl (by kernel_rfl) (by kernel_rfl) (by kernel_rfl) (by kernel_rfl) (fun _ _ _ h => h) (Or.inl ⟨by rfl, ?_⟩) (by assumption) ?_
          rotate_left 1
          · (intro w hSw; go_simp; try (with_reducible rfl))
          refine wpAnyL_take (i := 1) (v := ?_) rfl (by kernel_rfl) (by kernel_rfl) (by kernel_rfl) (by kernel_rfl) (fun _ _ _ h => h) (Or.inl ⟨by rfl, ?_⟩) (by assumption) ?_
          rotate_left 1
          · (intro w hSw; go_simp; try (with_reducible rfl))
          refine wpAnyL_take (i := 2) (v := ?_) rfl (by kernel_rfl) (by kernel_rfl) (by kernel_rfl) (by kernel_rfl) (fun _ _ _ h => h) (Or.inl ⟨by rfl, ?_⟩) (by assumption) ?_
          rotate_left 1
          · (intro w hSw; go_simp; try (with_reducible rfl))
          refine wpAnyL_take (i := 4) (v := ?_) rfl (by kernel_rfl) (by kernel_rfl) (by kernel_rfl) (by kernel_rfl) (fun _ _ _ h => h) (Or.inl ⟨by rfl, ?_⟩) (by assumption) ?_
          rotate_left 1
          · (intro w hSw; go_simp; try (with_reducible rfl))
          refine wpAnyL_take (i := 5) (v := ?_) rfl (by kernel_rfl) (by kernel_rfl) (by kernel_rfl) (by kernel_rfl) (fun _ _ _ h => h) (Or.inl ⟨by rfl, ?_⟩) (by assumption) ?_
          rotate_left 1
          · (intro w hSw; go_simp; try (with_reducible rfl))
          refine wpAnyL_take (i := 6) (v := ?_) rfl (by kernel_rfl) (by kernel_rfl) (by kernel_rfl) (by kernel_rfl) (fun _ _ _ h => h) (Or.inl ⟨by rfl, ?_⟩) (by assumption) ?_
          rotate_left 1
          · (intro w hSw; go_simp; try (with_reducible rfl))
          rw [← HXx.out.1]
          refine wpAnyL_one (i := 3) (by kernel_rfl) rfl (fun K hK' => ?_)
          go_simp
          refine (hn2 _).mono ?_
          rintro e w8 ⟨rfl, hw8⟩
          subst hw8
          go_wp2_with fail
          refine hK'.out _ _ trivial (fun hH => ?_)
          clear hK' K
          refine wpAnyL_take (i := 7) (v := ?_) rfl (by kernel_rfl) (by kernel_rfl) (by kernel_rfl) (by kernel_rfl) (fun _ _ _ h => h) (Or.inl ⟨by rfl, ?_⟩) (by assumption) ?_
          rotate_left 1
          · (intro w hSw; go_simp; try (with_reducible rfl))
          refine wpAnyL_one (i := 8) (by kernel_rfl) rfl (fun K hK' => ?_)
          go_simp
          have ho2 := own_below ho1 ((Below.refl _ wr.drew).alloc (Nat.le_refl _) (.cells #[.int .i64 (C : Int), .string X] 60))
          have hb2 := hbd.alloc hbd.size (.cells #[.int .i64 (C : Int), .string X] 60)
          refine hK'.out _ _ trivial (fun hH => ?_)
          clear hK' K
          refine wpAnyL_one (i := 9) (by kernel_rfl) rfl (fun K hK' => ?_)
          refine step_append_own rfl (.tmp 25) (.tmp 33) 28 rfl w.heap.size 60 i0 _ 2 24 Try.underlying28 hi hz0 hz1 hz2 rfl (by decide) (.slice ya acc.length yc) acc.length (opVs acc) (by rfl) ho2 ⟨wr.drew.heap.size, 0, none⟩ 1 1 [.int .i64 (C : Int), .string X] (by rfl) rfl (cell_newO _ _ _) (by intro u hu; simp at hu; rcases hu with rfl | rfl <;> rfl) (by unfold maxLen; omega) (by omega) hb2.size ?_
          intro va wa hown9 hgrow9 hnl9
          clear hnl9
          have hown10 : wa.ownsRow w.heap.size 60 2 va (acc ++ [((C : Int), X)]).length (opVs (acc ++ [((C : Int), X)])) := by
            rw [opVs_app, List.length_append]
            exact hown9
          have hb9 := hb2.grown hgrow9 hb2.size hrow
          obtain ⟨za, zc, rfl⟩ := own_sl hown10
          refine hK'.out _ _ trivial (fun hH => ?_)
          clear hK' K hown9 hgrow9 ho2 hb2 ho1 hbd hown hbel
          refine wpAnyL_take (i := 10) (v := ?_) rfl (by kernel_rfl) (by kernel_rfl) (by kernel_rfl) (by kernel_rfl) (fun _ _ _ h => h) (Or.inl ⟨by rfl, ?_⟩) (by assumption) ?_
          rotate_left 1
          · (intro w hSw; go_simp; try (with_reducible rfl))
          refine wpAnyL_done (by kernel_rfl) ?_
          clear hH
          go_wp2
          rw [← HXx.out.2]
          go_roundw
          case rel => exact ⟨S2, acc ++ [((C : Int), X)], rfl, by rw [List.length_append, HS2z.out, HM.out]; simp; omega, HR2, by rw [show (acc ++ [((C : Int), X)]).length = acc.length + 1 by simp] at hown10 ⊢; exact hown10, hb9⟩
          case measure => show S2.size < S.size; rw [HS2z.out, HM.out]; omega
end Go.Proofs.Ytinbaopcapnbgaa
