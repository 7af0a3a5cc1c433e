import Derived.Test.YtihhchebcojplaaJMath
import Derived.Lib.Bytealg
import Derived.Test.YtihhchebcojplaaJSrc
import Derived.Maps.AppendAt
/- Names as text, as plain mathematics. -/
namespace Go.Proofs.Ytihhchebcojplaa.Nm
open Go.RowKit

def marks : List UInt8 := [46, 92, 34, 59, 40, 41, 64, 36]
def markB (c : UInt8) : Bool := marks.any (· == c)

def threeL (c : UInt8) : List UInt8 := [UInt8.ofNat (48 + c.toNat / 100), UInt8.ofNat (48 + c.toNat / 10 % 10), UInt8.ofNat (48 + c.toNat % 10)]

def showB (c : UInt8) : List UInt8 :=
  if markB c = true then [92, c]
  else if 33 ≤ c.toNat ∧ c.toNat ≤ 126 then [c]
  else 92 :: threeL c

def showX (l : List UInt8) : List UInt8 := l.flatMap showB

def showL : List ByteArray → List UInt8
  | [] => []
  | l :: r => (showX l.data.toList ++ [46]) ++ showL r

theorem showB_mark {c : UInt8} (h : markB c = true) : showB c = [92, c] := by rw [showB, if_pos h]
theorem showB_plain {c : UInt8} (h : markB c = false) (h1 : 33 ≤ c.toNat ∧ c.toNat ≤ 126) : showB c = [c] := by rw [showB, if_neg (by simp [h]), if_pos h1]
theorem showB_num {c : UInt8} (h : markB c = false) (h1 : ¬ (33 ≤ c.toNat ∧ c.toNat ≤ 126)) : showB c = 92 :: threeL c := by rw [showB, if_neg (by simp [h]), if_neg h1]

theorem showB_length (c : UInt8) : (showB c).length ≤ 4 ∧ 1 ≤ (showB c).length := by
  unfold showB threeL
  split
  · simp
  · split <;> simp

theorem showX_append (a b : List UInt8) : showX (a ++ b) = showX a ++ showX b := by simp [showX]

theorem showX_length (l : List UInt8) : (showX l).length ≤ 4 * l.length := by
  induction l with
  | nil => simp [showX]
  | cons c r ih =>
    have := showB_length c
    simp only [showX, List.flatMap_cons, List.length_append, List.length_cons] at *
    omega

theorem showL_append (a b : List ByteArray) : showL (a ++ b) = showL a ++ showL b := by
  induction a with
  | nil => simp [showL]
  | cons x a ih => simp [showL, ih]

theorem showL_length (ls : List ByteArray) : (showL ls).length ≤ 4 * wsum ls := by
  induction ls with
  | nil => simp [showL]
  | cons x r ih =>
    have := showX_length x.data.toList
    simp only [showL, wsum, List.length_append, List.length_cons, List.length_nil, Array.length_toList, ByteArray.size_data] at *
    omega

theorem showL_step {ls : List ByteArray} {k : Nat} {x : ByteArray} (h : ls[k]? = some x) : showL (ls.take (k + 1)) = showL (ls.take k) ++ (showX x.data.toList ++ [46]) := by
  rw [take_step h, showL_append]; simp [showL]

theorem showX_step {x : ByteArray} {j : Nat} (h : j < x.size) : showX (x.data.toList.take (j + 1)) = showX (x.data.toList.take j) ++ showB x[j] := by
  have e : x.data.toList[j]? = some x[j] := by
    rw [List.getElem?_eq_getElem (by simpa using h)]; rfl
  rw [take_step e, showX_append]; simp [showX]

theorem showL_pos {ls : List ByteArray} (h : ls ≠ []) : 0 < (showL ls).length := by
  cases ls with
  | nil => exact absurd rfl h
  | cons x r => simp only [showL, List.length_append, List.length_cons, List.length_nil]; omega

def showS (s : ByteArray) : ByteArray × Int :=
  match split s with
  | none => (ByteArray.empty, 1)
  | some [] => (⟨#[46]⟩, 0)
  | some ls => (⟨(showL ls).toArray⟩, 0)

theorem showS_none {s : ByteArray} (h : split s = none) : showS s = (ByteArray.empty, 1) := by simp [showS, h]
theorem showS_root {s : ByteArray} (h : split s = some []) : showS s = (⟨#[46]⟩, 0) := by simp [showS, h]
theorem showS_some {s : ByteArray} {ls : List ByteArray} (h : split s = some ls) (hn : ls ≠ []) : showS s = (⟨(showL ls).toArray⟩, 0) := by
  cases ls with
  | nil => exact absurd rfl hn
  | cons x r => simp [showS, h]

theorem u8_back (c : UInt8) : ((c.toNat : Int)).toNat.toUInt8 = c := by
  simp

theorem mark_idx (c : UInt8) : decide (0 ≤ firstIdx ⟨#[46, 92, 34, 59, 40, 41, 64, 36]⟩ c) = markB c := by
  rw [firstIdx_nonneg]; rfl

theorem bys_mark (c : UInt8) : [Value.int .u8 (c.toNat : Int)] = bys [c] := rfl
theorem bys_num (c : UInt8) : [Value.int .u8 92, .int .u8 (48 + (c.toNat : Int) / 100), .int .u8 (48 + (c.toNat : Int) / 10 % 10), .int .u8 (48 + (c.toNat : Int) % 10)] = bys (92 :: threeL c) := by
  have := c.toNat_lt
  simp [bys, threeL]; omega

theorem markB_true {c : UInt8} (h : markB c = true) : c = 46 ∨ c = 92 ∨ c = 34 ∨ c = 59 ∨ c = 40 ∨ c = 41 ∨ c = 64 ∨ c = 36 := by
  simp [markB, marks] at h
  rcases h with h | h | h | h | h | h | h | h <;> simp [← h]

theorem markB_false {c : UInt8} (h : markB c = false) : (c == 46) = false ∧ (c == 92) = false ∧ (c == 34) = false ∧ (c == 59) = false ∧ (c == 40) = false ∧ (c == 41) = false ∧ (c == 64) = false ∧ (c == 36) = false := by
  simp only [markB, marks, List.any_cons, List.any_nil, Bool.or_eq_false_iff, beq_eq_false_iff_ne] at h
  obtain ⟨h1, h2, h3, h4, h5, h6, h7, h8, _⟩ := h
  simp only [beq_eq_false_iff_ne]
  exact ⟨h1.symm, h2.symm, h3.symm, h4.symm, h5.symm, h6.symm, h7.symm, h8.symm⟩

theorem four_cells (a b c d : Int) : ∀ u ∈ [Value.int .u8 a, .int .u8 b, .int .u8 c, .int .u8 d], u.oneCell' = true := by
  intro u hu
  simp at hu
  rcases hu with rfl | rfl | rfl | rfl <;> rfl

end Go.Proofs.Ytihhchebcojplaa.Nm
/- spec.l01Bytes by its contract. -/
namespace Go.Proofs.Ytihhchebcojplaa
open Go.RowKit

theorem Try.infoU8d : (Try.prog.info? 5).map (fun i => (i.zero, i.size, i.bytes)) = some (some (.int .u8 0), 1, 1) := by kernel_rfl

theorem conv_emptyd (c : Nat) (W : World) : (convert 22 9 (.slice (some ⟨c, 0, none⟩) 0 0)).run Try.prog W = .ok (.string ByteArray.empty) W :=
  run_convert_bytes_back W 22 9 5 ⟨c, 0, none⟩ 0 [] Try.underlying22 Try.underlying5 Try.underlying9 (by intro j hj; simp at hj)

theorem byte_of_int {r : Int} (h0 : 0 ≤ r) (h1 : r < 256) : ∃ c : UInt8, (c.toNat : Int) = r := by
  refine ⟨UInt8.ofNat r.toNat, ?_⟩
  simp
  omega

set_option maxRecDepth 100000 in
set_option maxHeartbeats 800000 in
theorem l01Bytes_any (g : Nat) (a : Option Addr) (n cap : Nat) (N : Int) (w : World) (h : Src w g a n cap) (hN0 : 0 ≤ N) (hN : N ≤ 1048576) :
    Calls Try.prog 51 #[.pointer (some ⟨g, 0, none⟩), .int .i64 N] w fun e w' => ∃ s : ByteArray, e = .returned (.string s) ∧ (s.size : Int) = N ∧ Src w' g a n cap ∧ w.grownBy w' (some g) := by
  obtain ⟨j0, hj, k0, k1, k2⟩ := info_parts Try.infoU8d
  obtain ⟨m, rfl⟩ := Int.eq_ofNat_of_zero_le hN0
  have hcd := src_code h
  by_cases hz : m = 0
  · subst hz
    have hcv := fun W => conv_emptyd w.heap.size W
    go_enter Try.func51, Try.ntmps51
    go_wp2
    go_loop [5, 6] (fun v i => v = .slice (some ⟨w.heap.size, 0, none⟩) 0 0 ∧ i = .int .i64 0) (fun _ _ => 0)
    case atStart => exact ⟨rfl, rfl⟩
    case round =>
      obtain ⟨rfl, rfl⟩ := hrel
      go_wp2
      go_ret
      exact ⟨ByteArray.empty, rfl, rfl, src_below h ((Below.refl _ _).alloc (Nat.le_refl _) _), grown_alloc (World.grownBy.refl _ _) _⟩
  · go_enter Try.func51, Try.ntmps51
    go_wp2
    go_loopw [5, 6] (fun v i wr => ∃ (k : Nat) (l : List UInt8), k ≤ m ∧ i = .int .i64 k ∧ wr.ownsRow w.heap.size 5 1 v k (Nm.bys l) ∧ Src wr g a n cap ∧ w.grownBy wr (some g))
      (fun _ i _ => m - (intOf i).toNat)
    case atStart => exact ⟨0, [], Nat.zero_le _, rfl, World.ownsRow_made w #[] 0 (Nat.le_refl _) (by decide) rfl, src_below h ((Below.refl _ _).alloc (Nat.le_refl _) _), grown_alloc (World.grownBy.refl _ _) _⟩
    case round =>
      obtain ⟨k, l, hk, rfl, hown, hsrc, hgr⟩ := hrel
      have hsz := hgr.size
      clear h
      by_cases hlt : k < m
      · go_wp2_with (first | (go_at_call 12; refine (l01Next_any g a n cap 256 _ hsrc (by decide)).mono ?_; rintro e w3 ⟨r, rfl, hr0, hr1, hsrc3, hgr3⟩; have hr2 := hr1 (by decide); obtain ⟨c, hc⟩ := byte_of_int hr0 hr2; subst hc; have hown3 := hown.kept hgr3 (row_src hown hsrc (by decide)); have hg3 := grown_step hgr hgr3; have hsz3 := hg3.size; clear hr1) | (at_builtin; refine wpList_append_own _ rfl (.tmp 13) (.tmp 17) 22 rfl w.heap.size 5 j0 (.int .u8 0) 1 1 Try.underlying22 hj k0 k1 k2 rfl (by decide) _ _ _ rfl (hown3.alloc _) ⟨w3.heap.size, 0, none⟩ 1 1 [.int .u8 (c.toNat : Int)] rfl rfl (cell_one_new _ _ _) (Nm.one_cell _ rfl) (by unfold maxLen; omega) (by omega) (by simp; omega) ?_; intro vb wb hown4 hgrow4 hnl4; clear hnl4; have hrow : ∀ q, Value.ownBlock _ = some q → w.heap.size ≤ q := fun q hq => (hown3.lt q hq).1; have hs4 := src_grown (src_below hsrc3 ((Below.refl _ _).alloc (Nat.le_refl _) _)) hgrow4 hrow hcd.2 hcd.1; have hg4 := grown_own (grown_alloc hg3 _) hgrow4 hrow; rw [Nm.bys_mark, ← Nm.bys_append] at hown4; clear hgrow4 hown3))
        go_roundw
        case rel => exact ⟨k + 1, _, by omega, by go_num, hown4, hs4, hg4⟩
        case measure => simp [intOf]; omega
      · have hke : k = m := by omega
        subst hke
        have hll : l.length = k := by have := hown.1; rw [Nm.bys_length] at this; omega
        obtain ⟨g6, cp6, rfl, hcv⟩ := Nm.conv_own (P := Try.prog) Try.underlying22 Try.underlying5 Try.underlying9 hown (by omega)
        have hms := mk_size l
        clear hown hlt
        go_wp2
        go_ret
        exact ⟨_, rfl, by rw [hms]; omega, hsrc, hgr⟩
end Go.Proofs.Ytihhchebcojplaa
