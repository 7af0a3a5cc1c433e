import Derived.Test.YtinbaopcapnbgaaSOp
import Derived.Test.YtinbaopcapnbgaaJShelfC
import Derived.Deep.QuietTactic
import Derived.BigQuiet
/- impl.readOptions by its contract. -/
namespace Go.Proofs.Ytinbaopcapnbgaa
open Go.RowKit
set_option linter.unusedVariables false

set_option maxRecDepth 100000 in
set_option maxHeartbeats 1600000 in
theorem readOptions_any (D : ByteArray) (w : World) (hD : D.size ≤ 1048576) :
    Calls Try.prog 37 #[.string D] w (OpPost D.data.toList w) := by
  obtain ⟨i0, hi, hz0, hz1, hz2⟩ := info_parts Try.infoOpz2
  obtain ⟨RES, HRES⟩ : ∃ R, Hid (R = optR D.data.toList) := ⟨_, rfl⟩
  have hro : w.ownsRow w.heap.size 60 2 (.slice none 0 0) ([] : List (Int × ByteArray)).length (opVs []) := ⟨rfl, .inl ⟨rfl, rfl⟩⟩
  have hDl : D.data.toList.length = D.size := by simp
  have HR0 : Hid (optA (D.size + 1) [] D.data.toList = RES) := by show _ = _; rw [HRES.out, optR, hDl]
  have hnum := fun (s : ByteArray) (hs : s.size ≤ 6) W => readBig_any s W hs
  clear hDl
  go_enter Try.func37, Try.ntmps37
  go_wp2
  go_loopw [0, 4] (fun s u wr => ∃ (S : ByteArray) (acc : List (Int × ByteArray)), s = .string S ∧ acc.length + S.size ≤ D.size ∧ Hid (optA (S.size + 1) acc S.data.toList = RES) ∧ wr.ownsRow w.heap.size 60 2 u acc.length (opVs acc) ∧ Below w.heap.size w wr) (fun s _ _ => oStr s)
  case atStart => exact ⟨D, [], rfl, by simp, HR0, hro, Below.refl _ _⟩
  case round =>
    obtain ⟨S, acc, rfl, hb, HR, hown, hbel⟩ := hrel
    clear hro HR0
    have hSl : S.data.toList.length = S.size := by simp
    by_cases h0 : S.size = 0
    · obtain ⟨e1, e2⟩ := beq_empty h0
      have HE : Hid (RES = some acc) := by
        show _ = _
        have hnil : S.data.toList = [] := List.length_eq_zero_iff.1 (by omega)
        rw [← HR.out, hnil, optA_nil]
      clear hSl h0 hnum
      go_wp2
      go_ret2
      refine ⟨?_, hbel⟩
      rw [← HRES.out, HE.out]
      exact ⟨_, rfl, hown⟩
    · obtain ⟨e1, e2⟩ := not_empty (s := S) (by omega)
      have hnn : S.data.toList ≠ [] := fun e => h0 (by rw [← hSl, e]; rfl)
      by_cases h4 : S.size < 4
      · have HE : Hid (RES = none) := by
          show _ = _
          rw [← HR.out, optA_bad hnn (.inl (by omega))]
        have h4' : (S.size : Int) < 4 := by omega
        clear hSl h0 hnum hnn
        go_wp2
        go_ret2
        refine ⟨?_, hbel⟩
        rw [← HRES.out, HE.out]
        rfl
      · obtain ⟨N, hN⟩ : ∃ N, N = numL ((S.data.toList.drop 2).take 2) := ⟨_, rfl⟩
        have hN16 : N < 65536 := by
          have h1 := numL_lt ((S.data.toList.drop 2).take 2)
          have h2 : ((S.data.toList.drop 2).take 2).length ≤ 2 := by simp; omega
          have h3 : 256 ^ ((S.data.toList.drop 2).take 2).length ≤ 256 ^ 2 := Nat.pow_le_pow_right (by decide) h2
          omega
        have hn1 := hnum (S.extract 2 4) (by rw [ByteArray.size_extract]; omega)
        rw [ba_cut, ← hN] at hn1
        have hn2 := hnum (S.extract 0 2) (by rw [ByteArray.size_extract]; omega)
        rw [ba_cut, List.drop_zero] at hn2
        obtain ⟨C, hC⟩ : ∃ C, C = numL (S.data.toList.take 2) := ⟨_, rfl⟩
        rw [← hC] at hn2
        have h4' : ¬ (S.size : Int) < 4 := by omega
        have q4 : (4 : Int) ≤ (S.size : Int) := by omega
        have q2 : (2 : Int) ≤ (S.size : Int) := by omega
        have hZ : (S.extract 4 S.size).size = S.size - 4 := by rw [ByteArray.size_extract]; omega
        by_cases hbig : S.size < 4 + N
        · have HE : Hid (RES = none) := by
            show _ = _
            rw [← HR.out, optA_bad hnn (.inr (by rw [← hN]; omega))]
          obtain ⟨T, hT⟩ : ∃ T, T = S.extract 4 S.size := ⟨_, rfl⟩
          rw [← hT] at hZ
          have hb1 : (T.size : Int) < (N : Int) := by omega
          clear hSl h0 hnum hnn hN hC
          go_wp2
          go_quiet ((go_at_call 54; first | with_reducible exact Calls.quiet_of_same (hn1 _) | with_reducible exact Calls.quiet_of_same (hn2 _)))
          go_wp2
          rw [← hT]
          go_wp2
          go_ret2
          refine ⟨?_, hbel.trans ⟨rfl, rfl, rfl, Nat.le_refl _, fun _ _ => rfl⟩⟩
          rw [← HRES.out, HE.out]
          rfl
        · have hstep := optA_step (f := S.size) (acc := acc) hnn (by rw [← hN]; omega)
          rw [HR.out, ← hN, ← hC] at hstep
          obtain ⟨T, hT⟩ : ∃ T, T = S.extract 4 S.size := ⟨_, rfl⟩
          rw [← hT] at hZ
          have hTl : T.data.toList = S.data.toList.drop 4 := by rw [hT, ba_drop]
          obtain ⟨X, hX⟩ : ∃ X, X = T.extract 0 N := ⟨_, rfl⟩
          obtain ⟨S2, hS2⟩ : ∃ X, X = T.extract N T.size := ⟨_, rfl⟩
          have eX : (⟨((S.data.toList.drop 4).take N).toArray⟩ : ByteArray) = X := by
            have := ba_of (ba_cut T 0 N)
            rw [hTl, List.drop_zero, Nat.sub_zero] at this
            rw [hX, this]
          have hS2z : S2.size = T.size - N := by rw [hS2, ByteArray.size_extract]; omega
          have hXz : X.size ≤ 1048576 := by rw [hX, ByteArray.size_extract]; omega
          have HR2 : Hid (optA (S2.size + 1) (acc ++ [((C : Int), X)]) S2.data.toList = RES) := by
            show _ = _
            rw [hstep, eX, hS2, ba_drop, hTl, List.drop_drop, ByteArray.size_extract]
            refine optA_enough _ _ _ _ ?_ ?_
            · rw [List.length_drop]; omega
            · rw [List.length_drop]; omega
          have hb1 : ¬ (T.size : Int) < (N : Int) := by omega
          have hb2 : (N : Int) ≤ (T.size : Int) := by omega
          have hcl := fun W => cloneStr_any X W (by omega)
          have HS2z := Nm.hide hS2z
          have HZ := Nm.hide hZ
          have HT := Nm.hide hT
          have HX := Nm.hide hX
          have HS2 := Nm.hide hS2
          clear hSl h0 hnn hN hC eX hS2z hZ hstep HR hTl hnum hT hX hS2
          obtain ⟨ya, yc, rfl⟩ := own_sl hown
          have hrow : ∀ q, Value.ownBlock (.slice ya acc.length yc) = some q → w.heap.size ≤ q := fun q hq => (hown.lt q hq).1
          go_wp2
          go_quiet ((go_at_call 54; first | with_reducible exact Calls.quiet_of_same (hn1 _) | with_reducible exact Calls.quiet_of_same (hn2 _)))
          have hdr : Below wr.heap.size wr (wr.drewN nq) := ⟨rfl, rfl, rfl, Nat.le_refl _, fun _ _ => rfl⟩
          have ho1 := own_below hown hdr
          have hbd := Nm.below_two hbel hdr
          clear hown hbel hdr hn1 hn2
          generalize wr.drewN nq = W1 at *
          go_wp2_with fail
          rw [← HT.out]
          go_wp2_with fail
          rw [← HX.out]
          go_wp2_with fail
          refine (hcl _).mono ?_
          rintro e w2 ⟨rfl, b2⟩
          have ho2 := own_below ho1 b2
          have hbe2 := Nm.below_two hbd b2
          have hz2' := hbe2.size
          clear ho1 hbd b2 hcl
          go_wp2_with (at_builtin; refine wpList_append_own _ rfl (.tmp 24) (.tmp 31) 28 rfl w.heap.size 60 i0 _ 2 24 Try.underlying28 hi hz0 hz1 hz2 rfl (by decide) _ _ _ rfl (ho2.alloc _) ⟨w2.heap.size, 0, none⟩ 1 1 [.int .i64 (C : Int), .string X] rfl rfl (cell_newO _ _ _) (by intro u hu; simp at hu; rcases hu with rfl | rfl <;> rfl) (by unfold maxLen; omega) (by omega) (by simp; omega) ?_; intro va wa hown9 hgrow9 hnl9; clear hnl9)
          have hown10 : wa.ownsRow w.heap.size 60 2 va (acc ++ [((C : Int), X)]).length (opVs (acc ++ [((C : Int), X)])) := by
            rw [opVs_app, List.length_append]
            exact hown9
          have hb9 := (hbe2.alloc hbe2.size (.cells #[.int .i64 (C : Int), .string X] 60)).grown hgrow9 (hbe2.alloc hbe2.size (.cells #[.int .i64 (C : Int), .string X] 60)).size hrow
          obtain ⟨za, zc, rfl⟩ := own_sl hown10
          clear hown9 hgrow9 ho2 hbe2
          go_wp2_with fail
          rw [← HS2.out]
          go_roundw
          case rel => exact ⟨S2, acc ++ [((C : Int), X)], rfl, by rw [List.length_append, HS2z.out, HZ.out]; simp; omega, HR2, hown10, hb9⟩
          case measure => show S2.size < S.size; rw [HS2z.out, HZ.out]; omega
end Go.Proofs.Ytinbaopcapnbgaa
