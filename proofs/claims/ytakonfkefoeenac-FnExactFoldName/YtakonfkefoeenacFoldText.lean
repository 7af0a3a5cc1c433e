/- impl.foldByte, impl.foldText and impl.FoldName by their contracts. -/
import Derived.Test.YtakonfkefoeenacFoldB
import Derived.Test.YtakonfkefoeenacBytesRow
import Derived.Test.YtakonfkefoeenacNameOKi
namespace Go.Proofs.Ytakonfkefoeenac
open Go.RowKit

theorem low_set {l : List UInt8} {k : Nat} {c : UInt8} (h : l[k]? = some c) : (Nm.smallL (l.take k) ++ l.drop k).set k (Nm.low c) = Nm.smallL (l.take (k + 1)) ++ l.drop (k + 1) := by
  have hk : k < l.length := (List.getElem?_eq_some_iff.1 h).1
  have hx : l[k] = c := (List.getElem?_eq_some_iff.1 h).2
  have hl : (Nm.smallL (l.take k)).length = k := by simp [Nm.smallL]; omega
  rw [Nm.smallL_step h, List.set_append_right _ _ (by omega), hl, List.drop_eq_getElem_cons hk, hx]
  simp

set_option maxRecDepth 100000 in
set_option maxHeartbeats 800000 in
theorem foldText_any (s : ByteArray) (w : World) (hs : s.size ≤ 1000000000) :
    Calls Try.prog 33 #[.string s] w fun e w' => e = .returned (.string (Nm.small s)) ∧ Below w.heap.size w w' := by
  obtain ⟨cap, W, hcap, hmx, hrun, hrow, hbel⟩ := new_bytes s w
  have hmx' := hmx (by unfold maxLen; omega)
  unfold maxLen at hmx'
  clear hmx
  go_enter Try.func33, Try.ntmps33
  go_wp2
  go_loopw [10] (fun i wr => ∃ k : Nat, k ≤ s.size ∧ i = .int .i64 k ∧ BRow wr w.heap.size (Nm.smallL (s.data.toList.take k) ++ s.data.toList.drop k) ∧ Below w.heap.size w wr)
    (fun i _ => s.size - (intOf i).toNat)
  case atStart => exact ⟨0, Nat.zero_le _, rfl, by simpa [Nm.smallL] using hrow, hbel⟩
  case round =>
    obtain ⟨k, hk, rfl, hrk, hbk⟩ := hrel
    clear hrun hrow hbel
    by_cases hlt : k < s.size
    · have hd := Nm.get_data hlt
      have hll : (Nm.smallL (s.data.toList.take k) ++ s.data.toList.drop k)[k]? = some s[k] := by
        rw [List.getElem?_append_right (by simp [Nm.smallL]; omega)]
        simp [Nm.smallL, Nat.min_eq_left hk]
        simpa using hd
      have hck := hrk k _ hll
      have HB := Nm.hide (hrk.set (k := k) (d := Nm.low s[k]) (by simp [Nm.smallL]; omega))
      rw [low_set hd] at HB
      have HW : Hid (Below w.heap.size w (wr.setCell ⟨w.heap.size, k, none⟩ (.int .u8 (Nm.low s[k]).toNat))) := hbk.setCell (Nat.le_refl _) _
      obtain ⟨hc1, hc2⟩ := hck
      clear hd hll hrk
      go_wp2_with (go_at_call 43; refine (foldByte_any _ _).mono ?_; rintro e w3 ⟨rfl, rfl⟩)
      go_roundw
      case rel => exact ⟨k + 1, by omega, by go_num, HB.out, HW.out⟩
      case measure => simp [intOf]; omega
    · have hkl : k = s.size := by omega
      subst hkl
      have hcv := run_convert_bytes_back (P := Try.prog) wr 56 9 5 ⟨w.heap.size, 0, none⟩ cap (Nm.smallL s.data.toList) Try.underlying56 Try.underlying5 Try.underlying9 (by
        intro j hj
        rw [Nm.addr_add, Nat.zero_add]
        refine (hrk j _ ?_).1
        rw [List.take_of_length_le (by simp), List.drop_of_length_le (by simp), List.append_nil]
        exact List.getElem?_eq_getElem hj)
      have hsl : (Nm.smallL s.data.toList).length = s.size := by simp [Nm.smallL]
      rw [hsl, show (⟨(Nm.smallL s.data.toList).toArray⟩ : ByteArray) = Nm.small s from rfl] at hcv
      clear hrk hlt hsl
      go_wp2
      go_ret
      exact ⟨rfl, hbk⟩

set_option maxRecDepth 100000 in
set_option maxHeartbeats 400000 in
theorem implFoldName_any (s : ByteArray) (w : World) (hs : s.size ≤ maxLen) :
    Calls Try.prog 19 #[.string s] w fun e w' => e = .returned (.string (Nm.foldS s)) ∧ Below w.heap.size w w' := by
  have hok := implNameOK_any s w hs
  cases hq : Nm.split s with
  | none =>
    have HA := Nm.hide (Nm.foldS_none hq)
    rw [hq] at hok
    clear hq
    go_enter Try.func19, Try.ntmps19
    go_wp2_with fail
    refine hok.mono ?_
    rintro e w1 ⟨rfl, hbel⟩
    go_wp2
    go_ret
    rw [HA.out]
    exact ⟨rfl, hbel⟩
  | some ls =>
    have HA := Nm.hide (Nm.foldS_some hq)
    have hz := Nm.split_size hq
    rw [hq] at hok
    clear hq
    go_enter Try.func19, Try.ntmps19
    go_wp2_with fail
    refine hok.mono ?_
    rintro e w1 ⟨rfl, hbel⟩
    go_wp2_with fail
    refine (foldText_any s _ (by omega)).mono ?_
    rintro e w2 ⟨rfl, hbel2⟩
    go_wp2
    go_ret
    rw [HA.out]
    exact ⟨rfl, Nm.below_two hbel hbel2⟩
end Go.Proofs.Ytakonfkefoeenac
