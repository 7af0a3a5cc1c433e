import Derived.Test.YthhagapmcbkeiaaJSgR
import Derived.Test.YthhagapmcbkeiaaJIEr
import Derived.Deep.QuietTactic
import Derived.BigQuiet
import Derived.Shelf.Strings.Builder1
import Derived.Shelf.LaysM
import Derived.Shelf.Strconv.Clone
import Derived.Test.YthhagapmcbkeiaaProg
import Derived.Test.YthhagapmcbkeiaaJMath
import Derived.Test.YthhagapmcbkeiaaJShK
import Derived.Test.YthhagapmcbkeiaaJShL8
import Derived.Test.YthhagapmcbkeiaaRows
import Derived.WalkSpells
import Derived.WalkLawsBesides
/- spec.ReadEdns by its contract. -/
namespace Go.Proofs.Ythhagapmcbkeiaa
open Go.RowKit
set_option linter.unusedVariables false

/-- What a message's sender can take. -/
structure Ed where
  present : Bool
  size : Int
  ver : Int
  flags : Int
  opts : List (Int × ByteArray)
def edC (E : Ed) (u : Value) : Array Value := #[.bool E.present, .int .i64 E.size, .int .i64 E.ver, .int .i64 E.flags, u]
def ed0 : Ed := ⟨false, 0, 0, 0, []⟩
def edZ : Array Value := #[.bool false, .int .i64 0, .int .i64 0, .int .i64 0, .slice none 0 0]

/-- Bits of a time: the version, the flags. -/
def verI (t : Int) : Int := bits .and .i64 (t / 65536) 255
def flgI (t : Int) : Int := bits .and .i64 t 65535
/-- What a message says; none: it is ill formed. -/
def edR (m : Mg) : Option Ed := if 0 < cntR m.an 41 + cntR m.au 41 ∨ 1 < cntR m.ex 41 then none else match m.ex.find? (fun r => decide (r.ty = 41)) with
  | none => some ed0
  | some r => match optR r.da.data.toList with
    | none => none
    | some os => if r.own.data.toList = [0] then some ⟨true, r.cl, verI r.tt, flgI r.tt, os⟩ else none
def EdPost (R : Option Ed) (w : World) (e : Ending) (w' : World) : Prop := (match R with
  | none => e = .returned (.tuple #[.agg edZ, .int .i64 32])
  | some E => ∃ u, e = .returned (.tuple #[.agg (edC E u), .int .i64 0]) ∧ w'.ownsRow w.heap.size 45 2 u E.opts.length (opVs E.opts)) ∧ Below w.heap.size w w'

theorem own_only2 {w w' : World} {p B e s m : Nat} {v : Value} {xs : List Value} {cs : Array Value} {T : TypeId} (h : w.ownsRow B e s v m xs) (ho : Only p w w') (hk : Blk w p cs T) (hne : e ≠ T := by decide) : w'.ownsRow B e s v m xs := by
  refine h.kept (row := some p) ⟨ho.os, ho.tape, ho.output, ho.size, fun k hk hne => ho.block k hk (fun e => hne (by rw [e]))⟩ ?_
  rcases h.2 with ⟨rfl, _⟩ | ⟨g, cap, cur, rfl, _, hh, _⟩
  · exact .inl rfl
  · right
    intro e2
    simp only [Value.ownBlock, Option.some.injEq] at e2
    subst e2
    have e3 := hk.symm.trans hh
    injection e3 with e3
    injection e3 with _ e4
    exact hne e4.symm

theorem find_at {xs : List Rr} {p : Rr → Bool} {k : Nat} {x : Rr} (h : ∀ j y, j < k → xs[j]? = some y → p y = false) (hx : xs[k]? = some x) (hp : p x = true) : xs.find? p = some x := by
  obtain ⟨hk, e⟩ := List.getElem?_eq_some_iff.1 hx
  rw [List.find?_eq_some_iff_getElem]
  refine ⟨hp, k, hk, e, fun j hj => ?_⟩
  rw [h j _ hj (List.getElem?_eq_getElem (by omega))]
  rfl
theorem find_no {xs : List Rr} {p : Rr → Bool} (h : ∀ j y, j < xs.length → xs[j]? = some y → p y = false) : xs.find? p = none := by
  rw [List.find?_eq_none]
  intro x hx
  obtain ⟨j, hj, e⟩ := List.getElem_of_mem hx
  rw [h j x hj (by rw [List.getElem?_eq_getElem hj, e])]
  decide

end Go.Proofs.Ythhagapmcbkeiaa
/- Contracts of the library at this dump. -/
namespace Go.Proofs
open Go.Shelf
def Try.laysM316_ren : Go.Shelf.Ren := ⟨fun | 316 => 54 | n => n, fun | 9 => 9 | 3 => 3 | 4 => 4 | 37 => 22 | 0 => 0 | 127 => 104 | 5 => 5 | n => n, fun | n => n⟩
theorem Try.laysM316 : Go.Proofs.LaysM.n316 Try.prog Try.laysM316_ren := {
  mixed := by kernel_rfl
  f316 := Try.func54.trans (congrArg some (by kernel_rfl))
  t0 := Try.underlying0
  a0 := Try.isAgg0
  z0 := Try.sizeOf0
  v0 := Try.zeroValue0
  t3 := Try.underlying3
  a3 := Try.isAgg3
  z3 := Try.sizeOf3
  v3 := Try.zeroValue3
  t4 := Try.underlying4
  a4 := Try.isAgg4
  z4 := Try.sizeOf4
  v4 := Try.zeroValue4
  t9 := Try.underlying9
  a9 := Try.isAgg9
  z9 := Try.sizeOf9
  v9 := Try.zeroValue9
  t37 := Try.underlying22
  a37 := Try.isAgg22
  z37 := Try.sizeOf22
  v37 := Try.zeroValue22
  t127 := Try.underlying104
  a127 := Try.isAgg104
  z127 := Try.sizeOf104
  v127 := Try.zeroValue104
  t5 := Try.underlying5
  a5 := Try.isAgg5
  z5 := Try.sizeOf5
  v5 := Try.zeroValue5
  i0 := by kernel_rfl
  i3 := by kernel_rfl
  i4 := by kernel_rfl
  i5 := by kernel_rfl
  i9 := by kernel_rfl
  i37 := by kernel_rfl
  i127 := by kernel_rfl }
open Go.RowKit in
theorem Try.stringslite_Clone (s : ByteArray) (w : World) (hlim : s.size ≤ 281474976710656) :
    Calls Try.prog 54 #[.string s] w fun e w' => e = .returned (.string s) ∧ Below w.heap.size w w' := Any.stringslite_Clone Try.laysM316 s w hlim
end Go.Proofs
/- strings.Clone by its contract. -/
namespace Go.Proofs.Ythhagapmcbkeiaa
open Go.RowKit
set_option linter.unusedVariables false
theorem cloneStr_any (s : ByteArray) (w : World) (h : s.size ≤ 281474976710656) :
    Calls Try.prog 42 #[.string s] w fun e w' => e = .returned (.string s) ∧ Below w.heap.size w w' := by
  have hc := fun W => Try.stringslite_Clone s W h
  go_enter Try.func42, Try.ntmps42
  go_wp2_with (go_at_call 54; refine (hc _).mono ?_; rintro e w1 ⟨rfl, b1⟩)
  go_ret
  exact ⟨rfl, b1⟩
end Go.Proofs.Ythhagapmcbkeiaa
/- impl.readBig by its contract. -/
namespace Go.Proofs.Ythhagapmcbkeiaa
open Go.RowKit

theorem or4 (a b c d : Nat) (ha : a < 256) (hb : b < 256) (hc : c < 256) (hd : d < 256) :
    bits .or .i64 (bits .or .i64 (bits .or .i64 ((a : Int) * 16777216) ((b : Int) * 65536)) ((c : Int) * 256)) (d : Int) = ((((a * 256 + b) * 256 + c) * 256 + d : Nat) : Int) := by
  have e1 : (a : Int) * 16777216 = ((2 ^ 24 * a : Nat) : Int) := by omega
  have e2 : (b : Int) * 65536 = ((b * 65536 : Nat) : Int) := by omega
  have e3 : (c : Int) * 256 = ((c * 256 : Nat) : Int) := by omega
  rw [e1, e2, e3, or_join 24 a _ (by omega) (by omega)]
  have e4 : 2 ^ 24 * a + b * 65536 = 2 ^ 16 * (a * 256 + b) := by omega
  rw [e4, or_join 16 _ _ (by omega) (by omega)]
  have e5 : 2 ^ 16 * (a * 256 + b) + c * 256 = 2 ^ 8 * ((a * 256 + b) * 256 + c) := by omega
  rw [e5, or_join 8 _ _ (by omega) (by omega)]
  congr 1
  omega

def num4 (a b c d : UInt8) : Nat := ((a.toNat * 256 + b.toNat) * 256 + c.toNat) * 256 + d.toNat

theorem big_step (m : Nat) (c : UInt8) (h : m < 281474976710656) : bits .or .i64 ((m : Int) * 256) (c.toNat : Int) = ((m * 256 + c.toNat : Nat) : Int) := by
  have hc := c.toNat_lt
  have e : (m : Int) * 256 = ((2 ^ 8 * m : Nat) : Int) := by omega
  rw [e, or_join 8 m _ (by omega) (by omega)]
  congr 1
  omega

set_option maxRecDepth 100000 in
set_option maxHeartbeats 400000 in
theorem readBig_any (s : ByteArray) (w : World) (hs : s.size ≤ 6) :
    Calls Try.prog 41 #[.string s] w fun e w' => e = .returned (.int .i64 (numL s.data.toList)) ∧ w' = w := by
  go_enter Try.func41, Try.ntmps41
  go_wp2
  go_loop [3, 7] (fun u v => ∃ k : Nat, k ≤ s.size ∧ v = .int .i64 k ∧ u = .int .i64 (numL (s.data.toList.take k))) (fun _ v => s.size - (intOf v).toNat)
  case atStart => exact ⟨0, Nat.zero_le _, rfl, rfl⟩
  case round =>
    obtain ⟨k, hk, rfl, rfl⟩ := hrel
    by_cases hlt : k < s.size
    · have hd := Nm.get_data hlt
      have e1 : s.data.toList.take (k + 1) = s.data.toList.take k ++ [s[k]] := Nm.take_step hd
      have hb := numL_small (l := s.data.toList.take k) (by simp; omega)
      have e2 := numL_snoc (s.data.toList.take k) s[k]
      rw [← e1] at e2
      have hc : (s[k].toNat : Int) < 256 := by have := s[k].toNat_lt; omega
      have hlt' : (k : Int) < (s.size : Int) := by omega
      have HB := Nm.hide (big_step (numL (s.data.toList.take k)) s[k] hb)
      generalize numL (s.data.toList.take k) = m at *
      clear e1 hd
      go_wp2
      go_round
      case rel => exact ⟨k + 1, by omega, by go_num, by rw [e2, ← HB.out]⟩
      case measure => simp [intOf]; omega
    · have hke : k = s.size := by omega
      subst hke
      have et : s.data.toList.take s.size = s.data.toList := List.take_of_length_le (by simp)
      rw [et]
      go_wp2
      go_ret
      exact ⟨rfl, rfl⟩
end Go.Proofs.Ythhagapmcbkeiaa
/- impl.readOptions by its contract. -/
namespace Go.Proofs.Ythhagapmcbkeiaa
open Go.RowKit
set_option linter.unusedVariables false

set_option maxRecDepth 100000 in
set_option maxHeartbeats 1600000 in
theorem readOptions_any (D : ByteArray) (w : World) (hD : D.size ≤ 1048576) :
    Calls Try.prog 25 #[.string D] w (OpPost D.data.toList w) := by
  obtain ⟨i0, hi, hz0, hz1, hz2⟩ := info_parts Try.infoOpz2
  obtain ⟨RES, HRES⟩ : ∃ R, Hid (R = optR D.data.toList) := ⟨_, rfl⟩
  have hro : w.ownsRow w.heap.size 45 2 (.slice none 0 0) ([] : List (Int × ByteArray)).length (opVs []) := ⟨rfl, .inl ⟨rfl, rfl⟩⟩
  have hDl : D.data.toList.length = D.size := by simp
  have HR0 : Hid (optA (D.size + 1) [] D.data.toList = RES) := by show _ = _; rw [HRES.out, optR, hDl]
  have hnum := fun (s : ByteArray) (hs : s.size ≤ 6) W => readBig_any s W hs
  clear hDl
  go_enter Try.func25, Try.ntmps25
  go_wp2
  go_loopw [0, 4] (fun s u wr => ∃ (S : ByteArray) (acc : List (Int × ByteArray)), s = .string S ∧ acc.length + S.size ≤ D.size ∧ Hid (optA (S.size + 1) acc S.data.toList = RES) ∧ wr.ownsRow w.heap.size 45 2 u acc.length (opVs acc) ∧ Below w.heap.size w wr) (fun s _ _ => oStr s)
  case atStart => exact ⟨D, [], rfl, by simp, HR0, hro, Below.refl _ _⟩
  case round =>
    obtain ⟨S, acc, rfl, hb, HR, hown, hbel⟩ := hrel
    clear hro HR0
    have hSl : S.data.toList.length = S.size := by simp
    by_cases h0 : S.size = 0
    · obtain ⟨e1, e2⟩ := beq_empty h0
      have HE : Hid (RES = some acc) := by
        show _ = _
        have hnil : S.data.toList = [] := List.length_eq_zero_iff.1 (by omega)
        rw [← HR.out, hnil, optA_nil]
      clear hSl h0 hnum
      go_wp2
      go_ret2
      refine ⟨?_, hbel⟩
      rw [← HRES.out, HE.out]
      exact ⟨_, rfl, hown⟩
    · obtain ⟨e1, e2⟩ := not_empty (s := S) (by omega)
      have hnn : S.data.toList ≠ [] := fun e => h0 (by rw [← hSl, e]; rfl)
      by_cases h4 : S.size < 4
      · have HE : Hid (RES = none) := by
          show _ = _
          rw [← HR.out, optA_bad hnn (.inl (by omega))]
        have h4' : (S.size : Int) < 4 := by omega
        clear hSl h0 hnum hnn
        go_wp2
        go_ret2
        refine ⟨?_, hbel⟩
        rw [← HRES.out, HE.out]
        rfl
      · obtain ⟨N, hN⟩ : ∃ N, N = numL ((S.data.toList.drop 2).take 2) := ⟨_, rfl⟩
        have hN16 : N < 65536 := by
          have h1 := numL_lt ((S.data.toList.drop 2).take 2)
          have h2 : ((S.data.toList.drop 2).take 2).length ≤ 2 := by simp; omega
          have h3 : 256 ^ ((S.data.toList.drop 2).take 2).length ≤ 256 ^ 2 := Nat.pow_le_pow_right (by decide) h2
          omega
        have hn1 := hnum (S.extract 2 4) (by rw [ByteArray.size_extract]; omega)
        rw [ba_cut, ← hN] at hn1
        have hn2 := hnum (S.extract 0 2) (by rw [ByteArray.size_extract]; omega)
        rw [ba_cut, List.drop_zero] at hn2
        obtain ⟨C, hC⟩ : ∃ C, C = numL (S.data.toList.take 2) := ⟨_, rfl⟩
        rw [← hC] at hn2
        have h4' : ¬ (S.size : Int) < 4 := by omega
        have q4 : (4 : Int) ≤ (S.size : Int) := by omega
        have q2 : (2 : Int) ≤ (S.size : Int) := by omega
        have hZ : (S.extract 4 S.size).size = S.size - 4 := by rw [ByteArray.size_extract]; omega
        by_cases hbig : S.size < 4 + N
        · have HE : Hid (RES = none) := by
            show _ = _
            rw [← HR.out, optA_bad hnn (.inr (by rw [← hN]; omega))]
          obtain ⟨T, hT⟩ : ∃ T, T = S.extract 4 S.size := ⟨_, rfl⟩
          rw [← hT] at hZ
          have hb1 : (T.size : Int) < (N : Int) := by omega
          clear hSl h0 hnum hnn hN hC
          go_wp2
          go_quiet ((go_at_call 41; first | with_reducible exact Calls.quiet_of_same (hn1 _) | with_reducible exact Calls.quiet_of_same (hn2 _)))
          go_wp2
          rw [← hT]
          go_wp2
          go_ret2
          refine ⟨?_, hbel.trans ⟨rfl, rfl, rfl, Nat.le_refl _, fun _ _ => rfl⟩⟩
          rw [← HRES.out, HE.out]
          rfl
        · have hstep := optA_step (f := S.size) (acc := acc) hnn (by rw [← hN]; omega)
          rw [HR.out, ← hN, ← hC] at hstep
          obtain ⟨T, hT⟩ : ∃ T, T = S.extract 4 S.size := ⟨_, rfl⟩
          rw [← hT] at hZ
          have hTl : T.data.toList = S.data.toList.drop 4 := by rw [hT, ba_drop]
          obtain ⟨X, hX⟩ : ∃ X, X = T.extract 0 N := ⟨_, rfl⟩
          obtain ⟨S2, hS2⟩ : ∃ X, X = T.extract N T.size := ⟨_, rfl⟩
          have eX : (⟨((S.data.toList.drop 4).take N).toArray⟩ : ByteArray) = X := by
            have := ba_of (ba_cut T 0 N)
            rw [hTl, List.drop_zero, Nat.sub_zero] at this
            rw [hX, this]
          have hS2z : S2.size = T.size - N := by rw [hS2, ByteArray.size_extract]; omega
          have hXz : X.size ≤ 1048576 := by rw [hX, ByteArray.size_extract]; omega
          have HR2 : Hid (optA (S2.size + 1) (acc ++ [((C : Int), X)]) S2.data.toList = RES) := by
            show _ = _
            rw [hstep, eX, hS2, ba_drop, hTl, List.drop_drop, ByteArray.size_extract]
            refine optA_enough _ _ _ _ ?_ ?_
            · rw [List.length_drop]; omega
            · rw [List.length_drop]; omega
          have hb1 : ¬ (T.size : Int) < (N : Int) := by omega
          have hb2 : (N : Int) ≤ (T.size : Int) := by omega
          have hcl := fun W => cloneStr_any X W (by omega)
          have HS2z := Nm.hide hS2z
          have HZ := Nm.hide hZ
          have HT := Nm.hide hT
          have HX := Nm.hide hX
          have HS2 := Nm.hide hS2
          clear hSl h0 hnn hN hC eX hS2z hZ hstep HR hTl hnum hT hX hS2
          obtain ⟨ya, yc, rfl⟩ := own_sl hown
          have hrow : ∀ q, Value.ownBlock (.slice ya acc.length yc) = some q → w.heap.size ≤ q := fun q hq => (hown.lt q hq).1
          go_wp2
          go_quiet ((go_at_call 41; first | with_reducible exact Calls.quiet_of_same (hn1 _) | with_reducible exact Calls.quiet_of_same (hn2 _)))
          have hdr : Below wr.heap.size wr (wr.drewN nq) := ⟨rfl, rfl, rfl, Nat.le_refl _, fun _ _ => rfl⟩
          have ho1 := own_below hown hdr
          have hbd := Nm.below_two hbel hdr
          clear hown hbel hdr hn1 hn2
          generalize wr.drewN nq = W1 at *
          go_wp2_with fail
          rw [← HT.out]
          go_wp2_with fail
          rw [← HX.out]
          go_wp2_with fail
          refine (hcl _).mono ?_
          rintro e w2 ⟨rfl, b2⟩
          have ho2 := own_below ho1 b2
          have hbe2 := Nm.below_two hbd b2
          have hz2' := hbe2.size
          clear ho1 hbd b2 hcl
          go_wp2_with (at_builtin; refine wpList_append_own _ rfl (.tmp 24) (.tmp 31) 23 rfl w.heap.size 45 i0 _ 2 24 Try.underlying23 hi hz0 hz1 hz2 rfl (by decide) _ _ _ rfl (ho2.alloc _) ⟨w2.heap.size, 0, none⟩ 1 1 [.int .i64 (C : Int), .string X] rfl rfl (cell_newO _ _ _) (by intro u hu; simp at hu; rcases hu with rfl | rfl <;> rfl) (by unfold maxLen; omega) (by omega) (by simp; omega) ?_; intro va wa hown9 hgrow9 hnl9; clear hnl9)
          have hown10 : wa.ownsRow w.heap.size 45 2 va (acc ++ [((C : Int), X)]).length (opVs (acc ++ [((C : Int), X)])) := by
            rw [opVs_app, List.length_append]
            exact hown9
          have hb9 := (hbe2.alloc hbe2.size (.cells #[.int .i64 (C : Int), .string X] 45)).grown hgrow9 (hbe2.alloc hbe2.size (.cells #[.int .i64 (C : Int), .string X] 45)).size hrow
          obtain ⟨za, zc, rfl⟩ := own_sl hown10
          clear hown9 hgrow9 ho2 hbe2
          go_wp2_with fail
          rw [← HS2.out]
          go_roundw
          case rel => exact ⟨S2, acc ++ [((C : Int), X)], rfl, by rw [List.length_append, HS2z.out, HZ.out]; simp; omega, HR2, hown10, hb9⟩
          case measure => show S2.size < S.size; rw [HS2z.out, HZ.out]; omega
end Go.Proofs.Ythhagapmcbkeiaa
