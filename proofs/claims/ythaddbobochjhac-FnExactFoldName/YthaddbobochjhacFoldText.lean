/- impl.foldByte, impl.foldText and impl.FoldName by their contracts. -/
import Derived.Test.YthaddbobochjhacFoldM
import Derived.Test.YthaddbobochjhacNameOKi
namespace Go.Proofs.Ythaddbobochjhac
open Go.RowKit

theorem ret_u8 {a b : Int} (h : a = b) : Ending.returned (.int .u8 a) = .returned (.int .u8 b) := by rw [h]

set_option maxRecDepth 100000 in
set_option maxHeartbeats 400000 in
theorem foldByte_any (c : UInt8) (w : World) :
    Calls Try.prog 27 #[.int .u8 c.toNat] w fun e w' => e = .returned (.int .u8 (Nm.low c).toNat) ∧ w' = w := by
  have hcl : (c.toNat : Int) < 256 := by have := c.toNat_lt; omega
  by_cases hup : 65 ≤ c.toNat ∧ c.toNat ≤ 90
  · have HL := Nm.hide (Nm.low_up hup)
    have d1 : decide ((65 : Int) ≤ (c.toNat : Int)) = true := by simp; omega
    have d2 : decide ((c.toNat : Int) ≤ 90) = true := by simp; omega
    have hb1 : (c.toNat : Int) ≤ 90 := by omega
    clear hup
    go_enter Try.func27, Try.ntmps27
    go_wp2
    go_ret
    rw [HL.out]
    exact ⟨rfl, rfl⟩
  · have HL := Nm.hide (Nm.low_id hup)
    by_cases hlo : 65 ≤ c.toNat
    · have d1 : decide ((65 : Int) ≤ (c.toNat : Int)) = true := by simp; omega
      have d2 : decide ((c.toNat : Int) ≤ 90) = false := by simp; omega
      clear hup
      go_enter Try.func27, Try.ntmps27
      go_wp2
      go_ret
      rw [HL.out]
      exact ⟨rfl, rfl⟩
    · have d1 : decide ((65 : Int) ≤ (c.toNat : Int)) = false := by simp; omega
      clear hup
      go_enter Try.func27, Try.ntmps27
      go_wp2
      go_ret
      rw [HL.out]
      exact ⟨rfl, rfl⟩

/-- The bytes 'l' lie at the head of block g, and may be written. -/
def BRow (w : World) (g : Nat) (l : List UInt8) : Prop := ∀ j c, l[j]? = some c → w.cell? ⟨g, j, none⟩ = some (.int .u8 c.toNat) ∧ w.frozen? ⟨g, j, none⟩ = false

theorem BRow.set {w : World} {g k : Nat} {l : List UInt8} {d : UInt8} (h : BRow w g l) (hk : k < l.length) : BRow (w.setCell ⟨g, k, none⟩ (.int .u8 d.toNat)) g (l.set k d) := by
  intro j c hj
  obtain ⟨x, hx⟩ : ∃ x, l[k]? = some x := ⟨_, List.getElem?_eq_getElem hk⟩
  by_cases e : k = j
  · subst e
    rw [List.getElem?_set_self hk] at hj
    simp at hj
    subst hj
    exact ⟨World.cell?_setCell_same _ _ _ (h k x hx).1, by rw [World.frozen?_setCell]; exact (h k x hx).2⟩
  · rw [List.getElem?_set_ne e] at hj
    refine ⟨?_, by rw [World.frozen?_setCell]; exact (h j c hj).2⟩
    rw [World.cell?_setCell_other w ⟨g, k, none⟩ ⟨g, j, none⟩ _ (by intro h; cases h; exact e rfl)]
    exact (h j c hj).1

theorem low_set {l : List UInt8} {k : Nat} {c : UInt8} (h : l[k]? = some c) : (Nm.smallL (l.take k) ++ l.drop k).set k (Nm.low c) = Nm.smallL (l.take (k + 1)) ++ l.drop (k + 1) := by
  have hk : k < l.length := (List.getElem?_eq_some_iff.1 h).1
  have hx : l[k] = c := (List.getElem?_eq_some_iff.1 h).2
  have hl : (Nm.smallL (l.take k)).length = k := by simp [Nm.smallL]; omega
  rw [Nm.smallL_step h, List.set_append_right _ _ (by omega), hl, List.drop_eq_getElem_cons hk, hx]
  simp

theorem new_bytes (s : ByteArray) (w : World) : ∃ cap W, s.size ≤ cap ∧ (s.size ≤ maxLen → cap ≤ maxLen) ∧
    (convert 9 39 (.string s)).run Try.prog w = .ok (.slice (some ⟨w.heap.size, 0, none⟩) s.size cap) W ∧ BRow W w.heap.size s.data.toList ∧ Below w.heap.size w W := by
  refine ⟨_, _, grownCap_ge w s.size 0 5, grownCap_le_maxLen w s.size 0 5, run_bytes_of_string w 9 39 5 s Try.underlying9 Try.underlying39 Try.underlying5, ?_, ?_⟩
  · intro j c hj
    have hj' : j < s.data.size := by
      have := (List.getElem?_eq_some_iff.1 hj).1
      simpa using this
    have hc : s.data[j] = c := by
      have := (List.getElem?_eq_some_iff.1 hj).2
      simpa using this
    constructor
    · have e := cell_of_row (w.drew.alloc (.cells (bytesRow s (grownCap w s.size 0 5)) 5 ((bytesRow s (grownCap w s.size 0 5)).size, (bytesRow s (grownCap w s.size 0 5)).size + 1))) w.heap.size j _ 5 _ (heap_alloc_new w.drew _)
      rw [e, bytesRow_at s _ j hj', hc]
    · have e := World.frozen?_alloc_mark w.drew (bytesRow s (grownCap w s.size 0 5)) 5 (bytesRow s (grownCap w s.size 0 5)).size ((bytesRow s (grownCap w s.size 0 5)).size + 1) j
      rw [show w.heap.size = w.drew.heap.size from rfl, e]
      have : s.data.size ≤ (bytesRow s (grownCap w s.size 0 5)).size := by simp [bytesRow]
      simp; omega
  · exact ((Below.refl _ w).drew).alloc (Nat.le_refl _) _

set_option maxRecDepth 100000 in
set_option maxHeartbeats 800000 in
theorem foldText_any (s : ByteArray) (w : World) (hs : s.size ≤ 1000000000) :
    Calls Try.prog 22 #[.string s] w fun e w' => e = .returned (.string (Nm.small s)) ∧ Below w.heap.size w w' := by
  obtain ⟨cap, W, hcap, hmx, hrun, hrow, hbel⟩ := new_bytes s w
  have hmx' := hmx (by unfold maxLen; omega)
  unfold maxLen at hmx'
  clear hmx
  go_enter Try.func22, Try.ntmps22
  go_wp2
  go_loopw [10] (fun i wr => ∃ k : Nat, k ≤ s.size ∧ i = .int .i64 k ∧ BRow wr w.heap.size (Nm.smallL (s.data.toList.take k) ++ s.data.toList.drop k) ∧ Below w.heap.size w wr)
    (fun i _ => s.size - (intOf i).toNat)
  case atStart => exact ⟨0, Nat.zero_le _, rfl, by simpa [Nm.smallL] using hrow, hbel⟩
  case round =>
    obtain ⟨k, hk, rfl, hrk, hbk⟩ := hrel
    clear hrun hrow hbel
    by_cases hlt : k < s.size
    · have hd := Nm.get_data hlt
      have hll : (Nm.smallL (s.data.toList.take k) ++ s.data.toList.drop k)[k]? = some s[k] := by
        rw [List.getElem?_append_right (by simp [Nm.smallL]; omega)]
        simp [Nm.smallL, Nat.min_eq_left hk]
        simpa using hd
      have hck := hrk k _ hll
      have HB := Nm.hide (hrk.set (k := k) (d := Nm.low s[k]) (by simp [Nm.smallL]; omega))
      rw [low_set hd] at HB
      have HW : Hid (Below w.heap.size w (wr.setCell ⟨w.heap.size, k, none⟩ (.int .u8 (Nm.low s[k]).toNat))) := hbk.setCell (Nat.le_refl _) _
      obtain ⟨hc1, hc2⟩ := hck
      clear hd hll hrk
      go_wp2_with (go_at_call 27; refine (foldByte_any _ _).mono ?_; rintro e w3 ⟨rfl, rfl⟩)
      go_roundw
      case rel => exact ⟨k + 1, by omega, by go_num, HB.out, HW.out⟩
      case measure => simp [intOf]; omega
    · have hkl : k = s.size := by omega
      subst hkl
      have hcv := run_convert_bytes_back (P := Try.prog) wr 39 9 5 ⟨w.heap.size, 0, none⟩ cap (Nm.smallL s.data.toList) Try.underlying39 Try.underlying5 Try.underlying9 (by
        intro j hj
        rw [Nm.addr_add, Nat.zero_add]
        refine (hrk j _ ?_).1
        rw [List.take_of_length_le (by simp), List.drop_of_length_le (by simp), List.append_nil]
        exact List.getElem?_eq_getElem hj)
      have hsl : (Nm.smallL s.data.toList).length = s.size := by simp [Nm.smallL]
      rw [hsl, show (⟨(Nm.smallL s.data.toList).toArray⟩ : ByteArray) = Nm.small s from rfl] at hcv
      clear hrk hlt hsl
      go_wp2
      go_ret
      exact ⟨rfl, hbk⟩

set_option maxRecDepth 100000 in
set_option maxHeartbeats 400000 in
theorem implFoldName_any (s : ByteArray) (w : World) (hs : s.size ≤ maxLen) :
    Calls Try.prog 12 #[.string s] w fun e w' => e = .returned (.string (Nm.foldS s)) ∧ Below w.heap.size w w' := by
  have hok := implNameOK_any s w hs
  cases hq : Nm.split s with
  | none =>
    have HA := Nm.hide (Nm.foldS_none hq)
    rw [hq] at hok
    clear hq
    go_enter Try.func12, Try.ntmps12
    go_wp2_with fail
    refine hok.mono ?_
    rintro e w1 ⟨rfl, hbel⟩
    go_wp2
    go_ret
    rw [HA.out]
    exact ⟨rfl, hbel⟩
  | some ls =>
    have HA := Nm.hide (Nm.foldS_some hq)
    have hz := Nm.split_size hq
    rw [hq] at hok
    clear hq
    go_enter Try.func12, Try.ntmps12
    go_wp2_with fail
    refine hok.mono ?_
    rintro e w1 ⟨rfl, hbel⟩
    go_wp2_with fail
    refine (foldText_any s _ (by omega)).mono ?_
    rintro e w2 ⟨rfl, hbel2⟩
    go_wp2
    go_ret
    rw [HA.out]
    exact ⟨rfl, Nm.below_two hbel hbel2⟩
end Go.Proofs.Ythaddbobochjhac
