import Derived.Test.YtljcckcdmehipaaJBitM
import Derived.Test.YtljcckcdmehipaaRows
import Derived.WalkSpells
import Derived.WalkLawsBesides
import Derived.RegionTactic
import Derived.ChangeAlike
import Derived.BigRegion
import Derived.Deep.RegionHeld3
/- string([]byte{c}), and small things. -/
namespace Go.Proofs.Ytljcckcdmehipaa
open Go.RowKit

theorem conv_one (n : Int) (W : World) :
    (convert 29 9 (.slice (some ⟨W.heap.size, 0, none⟩) 1 1)).run Try.prog (W.alloc (.cells #[.int .u8 n] 5)) = .ok (.string ⟨#[UInt8.ofNat n.toNat]⟩) (W.alloc (.cells #[.int .u8 n] 5)) := by
  rw [run_convert_bytes_string _ 29 9 5 _ _ _ Try.underlying29 Try.underlying5 Try.underlying9]
  have hl := run_loadCells_list (P := Try.prog) (W.alloc (.cells #[.int .u8 n] 5)) ⟨W.heap.size, 0, none⟩ ([n].map (Value.int .u8)) (fun j v hj => cell_one_new W (.int .u8 n) 5 j v hj)
  rw [run_bytesToString _ _ 1 1 [n] hl]
  rfl

theorem conv_one_drew (n : Int) (W : World) :
    (convert 29 9 (.slice (some ⟨W.heap.size, 0, none⟩) 1 1)).run Try.prog (W.alloc (.cells #[.int .u8 n] 5)).drew = .ok (.string ⟨#[UInt8.ofNat n.toNat]⟩) (W.alloc (.cells #[.int .u8 n] 5)).drew :=
  conv_one n W.drew

theorem ret_str {a b : ByteArray} (h : a = b) : Ending.returned (.string a) = .returned (.string b) := by rw [h]

theorem byte_mod (n : Nat) : UInt8.ofNat (n % 256) = UInt8.ofNat n := by
  apply UInt8.toNat_inj.1
  simp

theorem ba_ext {a b : ByteArray} (h : a.data.toList = b.data.toList) : a = b := by
  apply ByteArray.ext
  exact Array.toList_inj.1 h

theorem size_list (s : ByteArray) : s.data.toList.length = s.size := by simp

end Go.Proofs.Ytljcckcdmehipaa
/- laws.markText, laws.markStringS, laws.heldStringS by their contracts. -/
namespace Go.Proofs.Ytljcckcdmehipaa
open Go.RowKit

def dgF : Nat → Nat → List UInt8
  | 0, _ => []
  | f + 1, k => if k = 0 then [] else dgF f (k / 10) ++ [UInt8.ofNat (48 + k % 10)]

def mkS (k : Nat) : ByteArray := if k = 0 then ⟨#[109, 48]⟩ else ⟨(109 :: dgF (k + 1) k).toArray⟩

def MkAt (k j : Nat) (t : ByteArray) : Prop := ∃ f, j < f ∧ dgF (k + 1) k = dgF f j ++ t.data.toList

theorem mk_start (k : Nat) : MkAt k k ⟨#[]⟩ := ⟨k + 1, by omega, by simp⟩
theorem mk_step {k j : Nat} {t : ByteArray} (h : MkAt k j t) (hj : 0 < j) : MkAt k (j / 10) (⟨#[UInt8.ofNat (48 + j % 10)]⟩ ++ t) := by
  obtain ⟨f, hf, e⟩ := h
  obtain ⟨g, rfl⟩ : ∃ g, f = g + 1 := ⟨f - 1, by omega⟩
  refine ⟨g, by omega, ?_⟩
  rw [e, dgF, if_neg (by omega)]
  simp
theorem mk_end {k j : Nat} {t : ByteArray} (h : MkAt k j t) (hj : j = 0) (hk : 0 < k) : (⟨#[109]⟩ : ByteArray) ++ t = mkS k := by
  obtain ⟨f, hf, e⟩ := h
  obtain ⟨g, rfl⟩ : ∃ g, f = g + 1 := ⟨f - 1, by omega⟩
  have z : dgF (g + 1) j = [] := by rw [dgF, if_pos hj]
  rw [z, List.nil_append] at e
  rw [mkS, if_neg (by omega), e]
  apply ba_ext
  simp
theorem mk_len {k j : Nat} {t : ByteArray} (h : MkAt k j t) : t.size ≤ k + 1 := by
  have hl : ∀ f k, (dgF f k).length ≤ f := by
    intro f
    induction f with
    | zero => intro k; simp [dgF]
    | succ f ih =>
      intro k
      rw [dgF]
      split
      · simp
      · have := ih (k / 10); simp; omega
  obtain ⟨f, hf, e⟩ := h
  have := congrArg List.length e
  rw [List.length_append, size_list] at this
  have := hl (k + 1) k
  omega

set_option maxRecDepth 100000 in
set_option maxHeartbeats 800000 in
theorem markText_any (k : Nat) (w : World) (hk : k ≤ 1000000000) :
    Calls Try.prog 46 #[.int .i64 (k : Int)] w fun e w' => e = .returned (.string (mkS k)) ∧ Below w.heap.size w w' := by
  by_cases h0 : k = 0
  · have HE : Hid (mkS k = ⟨#[109, 48]⟩) := by show _ = _; rw [mkS, if_pos h0]
    have h0' : (k : Int) ≤ 0 := by omega
    clear h0
    go_enter Try.func46, Try.ntmps46
    go_wp2
    go_ret
    rw [HE.out]
    exact ⟨rfl, Below.refl _ _⟩
  · have hpos : 0 < k := by omega
    have h0' : (0 : Int) < (k : Int) := by omega
    have hst := mk_start k
    go_enter Try.func46, Try.ntmps46
    go_wp2
    go_loopw [0, 3] (fun i v wr => ∃ (j : Nat) (t : ByteArray), i = .int .i64 (j : Int) ∧ j ≤ k ∧ v = .string t ∧ MkAt k j t ∧ Below w.heap.size w wr)
      (fun i _ _ => (intOf i).toNat)
    case atStart => exact ⟨k, _, rfl, Nat.le_refl _, rfl, hst, Below.refl _ _⟩
    case round =>
      obtain ⟨j, t, rfl, hjk, rfl, hat, hbel⟩ := hrel
      have hsz := hbel.size
      have hts := mk_len hat
      have hone : (ByteArray.mk #[109]).size = 1 := rfl
      clear hst
      by_cases hj : 0 < j
      · have HN := Nm.hide (mk_step hat hj)
        have hj' : (0 : Int) < (j : Int) := by omega
        have hcv := fun n => conv_one n wr
        have hn1 : ∀ c, (ByteArray.mk #[c]).size = 1 := fun _ => rfl
        have hmod : (48 + (j : Int) % 10) % 256 = 48 + (j : Int) % 10 := by omega
        have htn : (48 + (j : Int) % 10).toNat = 48 + j % 10 := by omega
        clear hat
        go_wp2
        go_roundw
        case rel => exact ⟨j / 10, _, by go_num, by omega, rfl, by simpa using HN.out, hbel.alloc hsz _⟩
        case measure => simp [intOf]; omega
      · have HE := Nm.hide (mk_end hat (by omega) hpos)
        have hj' : (j : Int) ≤ 0 := by omega
        clear hat
        go_wp2
        go_ret
        rw [← HE.out]
        exact ⟨rfl, hbel⟩
end Go.Proofs.Ytljcckcdmehipaa
/- laws.markRRS by its contract. -/
namespace Go.Proofs.Ytljcckcdmehipaa
open Go.RowKit
set_option linter.unusedVariables false

theorem mr_below {w w1 w2 : World} {g : Nat} (h : w.grownBy w1 (some g)) (h2 : Below w1.heap.size w1 w2) : w.grownBy w2 (some g) :=
  ⟨h2.os.trans h.os, h2.tape.trans h.tape, h2.output.trans h.output, Nat.le_trans h.size h2.size, fun k hk hne =>
    (h2.block k (Nat.lt_of_lt_of_le hk h.size)).trans (h.block k hk hne)⟩
theorem mr_ne (s : ByteArray) : (s.toList != s.toList) = false ∧ (s.toList == s.toList) = true := by simp

/-- The marks of cells: number k + i at cell i, a text or a number. -/
def mkQ (k i : Nat) : Value := if i % 3 = 0 then .string (mkS (k + i)) else .int .i64 ((k + i : Nat) : Int)
def mkR (k i : Nat) : Value := if i % 5 = 0 ∨ i % 5 = 4 then .string (mkS (k + i)) else .int .i64 ((k + i : Nat) : Int)
def mkL (f : Nat → Nat → Value) (k m : Nat) : List Value := (List.range m).map (f k)

theorem mkL_len (f : Nat → Nat → Value) (k m : Nat) : (mkL f k m).length = m := by simp [mkL]
theorem mkL_get {f : Nat → Nat → Value} {k m i : Nat} (h : i < m) : (mkL f k m)[i]? = some (f k i) := by simp [mkL, h]
theorem mkL_set {f : Nat → Nat → Value} {k m i : Nat} {xs : List Value} (hl : xs.length = m) (h : i < m) :
    ((mkL f k m).take i ++ xs.drop i).set i (f k i) = (mkL f k m).take (i + 1) ++ xs.drop (i + 1) := by
  apply List.ext_getElem?
  intro j
  have h1 : ((mkL f k m).take i).length = i := by rw [List.length_take, mkL_len]; omega
  have h2 : ((mkL f k m).take (i + 1)).length = i + 1 := by rw [List.length_take, mkL_len]; omega
  rw [List.getElem?_set]
  by_cases e : i = j
  · subst e
    rw [if_pos rfl, if_pos (by rw [List.length_append, h1, List.length_drop]; omega), List.getElem?_append_left (by omega), List.getElem?_take, if_pos (by omega), mkL_get h]
  · rw [if_neg e]
    by_cases e2 : j < i
    · rw [List.getElem?_append_left (by omega), List.getElem?_append_left (by omega), List.getElem?_take, List.getElem?_take, if_pos e2, if_pos (by omega)]
    · rw [List.getElem?_append_right (by omega), List.getElem?_append_right (by omega), h1, h2, List.getElem?_drop, List.getElem?_drop]
      congr 1
      omega
theorem mkL_cell {f : Nat → Nat → Value} {k m i j : Nat} {xs : List Value} (hl : xs.length = m) (h : j < m) : ∃ y, ((mkL f k m).take i ++ xs.drop i)[j]? = some y :=
  ⟨_, List.getElem?_eq_getElem (by rw [List.length_append, List.length_take, mkL_len, List.length_drop]; omega)⟩
theorem mkL_done {f : Nat → Nat → Value} {k m : Nat} {xs : List Value} (hl : xs.length = m) : (mkL f k m).take m ++ xs.drop m = mkL f k m := by
  rw [List.take_of_length_le (by rw [mkL_len]; omega), List.drop_eq_nil_of_le (by omega), List.append_nil]

set_option maxRecDepth 100000 in
set_option maxHeartbeats 1600000 in
theorem markRRS_any (v : Value) (n B k : Nat) (xs : List Value) (w : World) (hown : w.ownsRow B 74 5 v n xs) (hB : B ≤ w.heap.size) (hn : n ≤ 1100000) (hk : k ≤ 10000000) :
    Calls Try.prog 26 #[v, .int .i64 (k : Int)] w fun e w' => e = .returned (.int .i64 ((k + n * 5 : Nat) : Int)) ∧ w'.ownsRow B 74 5 v n (mkL mkR k (n * 5)) ∧ w.grownBy w' v.ownBlock := by
  have hxl : xs.length = n * 5 := hown.1
  rcases Nat.eq_zero_or_pos n with h0 | hpos
  · subst h0
    obtain ⟨a, cap, rfl⟩ : ∃ a cap, v = .slice a 0 cap := by
      rcases hown.2 with ⟨rfl, _⟩ | ⟨g, cap, cur, rfl, _⟩
      · exact ⟨_, _, rfl⟩
      · exact ⟨_, _, rfl⟩
    have hx0 : xs = [] := List.length_eq_zero_iff.1 (by omega)
    subst hx0
    go_enter Try.func26, Try.ntmps26
    go_wp2
    go_loop [1, 5] (fun t i => t = .int .i64 (k : Int) ∧ i = .int .i64 0) (fun _ _ => 0)
    case atStart => exact ⟨rfl, rfl⟩
    case round =>
      obtain ⟨rfl, rfl⟩ := hrel
      go_wp2
      go_ret
      exact ⟨rfl, by simpa [mkL] using hown, World.grownBy.refl _ _⟩
  · obtain ⟨g, cap, rfl, hBg⟩ : ∃ g cap, v = .slice (some ⟨g, 0, none⟩) n cap ∧ B ≤ g := by
      rcases hown.2 with ⟨rfl, h0⟩ | ⟨g, cap, cur, rfl, hb, _⟩
      · omega
      · exact ⟨g, cap, rfl, hb⟩
    have hglt := (hown.lt g rfl).2
    go_enter Try.func26, Try.ntmps26
    go_wp2
    go_loopw [1, 5] (fun t i wr => ∃ j : Nat, j ≤ n ∧ i = .int .i64 (j : Int) ∧ t = .int .i64 ((k + j * 5 : Nat) : Int) ∧ wr.ownsRow B 74 5 (.slice (some ⟨g, 0, none⟩) n cap) n ((mkL mkR k (n * 5)).take (j * 5) ++ xs.drop (j * 5)) ∧ w.grownBy wr (some g))
      (fun _ i _ => n - (intOf i).toNat)
    case atStart => exact ⟨0, Nat.zero_le _, rfl, rfl, by simpa using hown, World.grownBy.refl _ _⟩
    case round =>
      obtain ⟨j, hj, rfl, rfl, hownj, hgr⟩ := hrel
      clear hown
      by_cases hlt : j < n
      · have s0 := mkL_set (f := mkR) (k := k) hxl (i := j * 5) (by omega)
        have s1 := mkL_set (f := mkR) (k := k) hxl (i := j * 5 + 1) (by omega)
        have s2 := mkL_set (f := mkR) (k := k) hxl (i := j * 5 + 2) (by omega)
        have s3 := mkL_set (f := mkR) (k := k) hxl (i := j * 5 + 3) (by omega)
        have s4 := mkL_set (f := mkR) (k := k) hxl (i := j * 5 + 4) (by omega)
        have m0 : mkR k (j * 5) = .string (mkS (k + j * 5)) := by rw [mkR, if_pos (by omega)]
        have m1 : mkR k (j * 5 + 1) = .int .i64 ((k : Int) + (j : Int) * 5 + 1) := by rw [mkR, if_neg (by omega)]; congr 1 <;> omega
        have m2 : mkR k (j * 5 + 2) = .int .i64 ((k : Int) + (j : Int) * 5 + 1 + 1) := by rw [mkR, if_neg (by omega)]; congr 1 <;> omega
        have m3 : mkR k (j * 5 + 3) = .int .i64 ((k : Int) + (j : Int) * 5 + 1 + 1 + 1) := by rw [mkR, if_neg (by omega)]; congr 1 <;> omega
        have m4 : mkR k (j * 5 + 4) = .string (mkS (k + j * 5 + 1 + 1 + 1 + 1)) := by rw [mkR, if_pos (by omega)]; congr 1
        rw [m0] at s0
        rw [m1] at s1
        rw [m2] at s2
        rw [m3] at s3
        rw [m4] at s4
        have hmt := fun W => markText_any (k + j * 5) W (by omega)
        rw [show (((k + j * 5 : Nat)) : Int) = (k : Int) + (j : Int) * 5 by omega] at hmt
        have hmt4 := fun W => markText_any (k + j * 5 + 1 + 1 + 1 + 1) W (by omega)
        rw [show (((k + j * 5 + 1 + 1 + 1 + 1 : Nat)) : Int) = (k : Int) + (j : Int) * 5 + 1 + 1 + 1 + 1 by omega] at hmt4
        have hg : ∀ (V : World) i u, w.grownBy V (some g) → w.grownBy (V.setCell ⟨g, i, none⟩ u) (some g) := fun V i u h =>
          ⟨h.os, h.tape, h.output, by simpa using h.size, fun q hq hne => by rw [heap_setCell_other V ⟨g, i, none⟩ q _ (fun e => hne (by simp [e]))]; exact h.block q hq hne⟩
        have HST : Hid (∀ W, Below wr.heap.size wr W → (∃ y, W.cell? ⟨g, j * 5, none⟩ = some y) ∧ W.frozen? ⟨g, j * 5, none⟩ = false ∧ (∃ y, (W.setCell ⟨g, j * 5, none⟩ (.string (mkS (k + j * 5)))).cell? ⟨g, j * 5 + 1, none⟩ = some y) ∧ (∃ y, ((W.setCell ⟨g, j * 5, none⟩ (.string (mkS (k + j * 5)))).setCell ⟨g, j * 5 + 1, none⟩ (.int .i64 ((k : Int) + (j : Int) * 5 + 1))).cell? ⟨g, j * 5 + 2, none⟩ = some y) ∧ (∃ y, (((W.setCell ⟨g, j * 5, none⟩ (.string (mkS (k + j * 5)))).setCell ⟨g, j * 5 + 1, none⟩ (.int .i64 ((k : Int) + (j : Int) * 5 + 1))).setCell ⟨g, j * 5 + 2, none⟩ (.int .i64 ((k : Int) + (j : Int) * 5 + 1 + 1))).cell? ⟨g, j * 5 + 3, none⟩ = some y) ∧ W.frozen? ⟨g, j * 5 + 1, none⟩ = false ∧ W.frozen? ⟨g, j * 5 + 2, none⟩ = false ∧ W.frozen? ⟨g, j * 5 + 3, none⟩ = false ∧
            (((((W.setCell ⟨g, j * 5, none⟩ (.string (mkS (k + j * 5)))).setCell ⟨g, j * 5 + 1, none⟩ (.int .i64 ((k : Int) + (j : Int) * 5 + 1))).setCell ⟨g, j * 5 + 2, none⟩ (.int .i64 ((k : Int) + (j : Int) * 5 + 1 + 1))).setCell ⟨g, j * 5 + 3, none⟩ (.int .i64 ((k : Int) + (j : Int) * 5 + 1 + 1 + 1))).ownsRow B 74 5 (.slice (some ⟨g, 0, none⟩) n cap) n ((mkL mkR k (n * 5)).take (j * 5 + 3 + 1) ++ xs.drop (j * 5 + 3 + 1)) ∧ w.grownBy ((((W.setCell ⟨g, j * 5, none⟩ (.string (mkS (k + j * 5)))).setCell ⟨g, j * 5 + 1, none⟩ (.int .i64 ((k : Int) + (j : Int) * 5 + 1))).setCell ⟨g, j * 5 + 2, none⟩ (.int .i64 ((k : Int) + (j : Int) * 5 + 1 + 1))).setCell ⟨g, j * 5 + 3, none⟩ (.int .i64 ((k : Int) + (j : Int) * 5 + 1 + 1 + 1))) (some g))) := by
          intro W hW
          have h0 := own_below hownj hW
          have o0 := (h0.stored (j * 5) (.string (mkS (k + j * 5)))).1
          rw [s0] at o0
          have o1 := (o0.stored (j * 5 + 1) (.int .i64 ((k : Int) + (j : Int) * 5 + 1))).1
          rw [s1] at o1
          have o2 := (o1.stored (j * 5 + 2) (.int .i64 ((k : Int) + (j : Int) * 5 + 1 + 1))).1
          rw [s2] at o2
          have o3 := (o2.stored (j * 5 + 3) (.int .i64 ((k : Int) + (j : Int) * 5 + 1 + 1 + 1))).1
          rw [s3] at o3
          refine ⟨?_, h0.frozenAt _, ?_, ?_, ?_, h0.frozenAt _, h0.frozenAt _, h0.frozenAt _, o3, ?_⟩
          · rw [h0.cellAt (j * 5) (by omega)]; exact mkL_cell hxl (by omega)
          · rw [o0.cellAt (j * 5 + 1) (by omega)]; exact mkL_cell hxl (by omega)
          · rw [o1.cellAt (j * 5 + 2) (by omega)]; exact mkL_cell hxl (by omega)
          · rw [o2.cellAt (j * 5 + 3) (by omega)]; exact mkL_cell hxl (by omega)
          · exact hg _ _ _ (hg _ _ _ (hg _ _ _ (hg _ _ _ (mr_below hgr hW))))
        have HSU : Hid (∀ V W : World, (V.ownsRow B 74 5 (.slice (some ⟨g, 0, none⟩) n cap) n ((mkL mkR k (n * 5)).take (j * 5 + 3 + 1) ++ xs.drop (j * 5 + 3 + 1)) ∧ w.grownBy V (some g)) → Below V.heap.size V W → (∃ y, W.cell? ⟨g, j * 5 + 4, none⟩ = some y) ∧ W.frozen? ⟨g, j * 5 + 4, none⟩ = false ∧ ((W.setCell ⟨g, j * 5 + 4, none⟩ (.string (mkS (k + j * 5 + 1 + 1 + 1 + 1)))).ownsRow B 74 5 (.slice (some ⟨g, 0, none⟩) n cap) n ((mkL mkR k (n * 5)).take (j * 5 + 4 + 1) ++ xs.drop (j * 5 + 4 + 1)) ∧ w.grownBy (W.setCell ⟨g, j * 5 + 4, none⟩ (.string (mkS (k + j * 5 + 1 + 1 + 1 + 1)))) (some g))) := by
          intro V W hV hW
          have h0 := own_below hV.1 hW
          have o4 := (h0.stored (j * 5 + 4) (.string (mkS (k + j * 5 + 1 + 1 + 1 + 1)))).1
          rw [s4] at o4
          refine ⟨?_, h0.frozenAt _, o4, hg _ _ _ (mr_below hV.2 hW)⟩
          rw [h0.cellAt (j * 5 + 4) (by omega)]; exact mkL_cell hxl (by omega)
        have HE : Hid ((j + 1) * 5 = j * 5 + 4 + 1) := by show _ = _; omega
        generalize mkS (k + j * 5) = ms at *
        generalize mkS (k + j * 5 + 1 + 1 + 1 + 1) = mt at *
        clear s0 s1 s2 s3 s4 m0 m1 m2 m3 m4 hownj hgr hg
        go_wp2_with (first | (go_at_call 46; with_reducible refine (hmt _).mono ?_; rintro e w2 ⟨rfl, hb2⟩; obtain ⟨⟨y0, c0⟩, f0, ⟨y1, c1⟩, ⟨y2, c2⟩, ⟨y3, c3⟩, f1, f2, f3, hx⟩ := HST.out w2 hb2; have HX := Nm.hide hx; clear hx) | (go_at_call 46; with_reducible refine (hmt4 _).mono ?_; rintro e w3 ⟨rfl, hb3⟩; obtain ⟨⟨y4, c4⟩, f4, hx4⟩ := HSU.out _ _ HX.out hb3; have HY := Nm.hide hx4; clear hx4))
        go_roundw
        case rel => exact ⟨j + 1, by omega, by go_num, by go_num, by rw [HE.out]; exact HY.out.1, HY.out.2⟩
        case measure => simp [intOf]; omega
      · have hje : j = n := by omega
        subst hje
        rw [mkL_done hxl] at hownj
        go_wp2
        go_ret
        exact ⟨rfl, hownj, hgr⟩
end Go.Proofs.Ytljcckcdmehipaa
/- laws.markQuestionS by its contract. -/
namespace Go.Proofs.Ytljcckcdmehipaa
open Go.RowKit
set_option linter.unusedVariables false

set_option maxRecDepth 100000 in
set_option maxHeartbeats 1600000 in
theorem markQuestionS_any (v : Value) (n B k : Nat) (xs : List Value) (w : World) (hown : w.ownsRow B 62 3 v n xs) (hB : B ≤ w.heap.size) (hn : n ≤ 1100000) (hk : k ≤ 10000000) :
    Calls Try.prog 25 #[v, .int .i64 (k : Int)] w fun e w' => e = .returned (.int .i64 ((k + n * 3 : Nat) : Int)) ∧ w'.ownsRow B 62 3 v n (mkL mkQ k (n * 3)) ∧ w.grownBy w' v.ownBlock := by
  have hxl : xs.length = n * 3 := hown.1
  rcases Nat.eq_zero_or_pos n with h0 | hpos
  · subst h0
    obtain ⟨a, cap, rfl⟩ : ∃ a cap, v = .slice a 0 cap := by
      rcases hown.2 with ⟨rfl, _⟩ | ⟨g, cap, cur, rfl, _⟩
      · exact ⟨_, _, rfl⟩
      · exact ⟨_, _, rfl⟩
    have hx0 : xs = [] := List.length_eq_zero_iff.1 (by omega)
    subst hx0
    go_enter Try.func25, Try.ntmps25
    go_wp2
    go_loop [1, 5] (fun t i => t = .int .i64 (k : Int) ∧ i = .int .i64 0) (fun _ _ => 0)
    case atStart => exact ⟨rfl, rfl⟩
    case round =>
      obtain ⟨rfl, rfl⟩ := hrel
      go_wp2
      go_ret
      exact ⟨rfl, by simpa [mkL] using hown, World.grownBy.refl _ _⟩
  · obtain ⟨g, cap, rfl, hBg⟩ : ∃ g cap, v = .slice (some ⟨g, 0, none⟩) n cap ∧ B ≤ g := by
      rcases hown.2 with ⟨rfl, h0⟩ | ⟨g, cap, cur, rfl, hb, _⟩
      · omega
      · exact ⟨g, cap, rfl, hb⟩
    have hglt := (hown.lt g rfl).2
    go_enter Try.func25, Try.ntmps25
    go_wp2
    go_loopw [1, 5] (fun t i wr => ∃ j : Nat, j ≤ n ∧ i = .int .i64 (j : Int) ∧ t = .int .i64 ((k + j * 3 : Nat) : Int) ∧ wr.ownsRow B 62 3 (.slice (some ⟨g, 0, none⟩) n cap) n ((mkL mkQ k (n * 3)).take (j * 3) ++ xs.drop (j * 3)) ∧ w.grownBy wr (some g))
      (fun _ i _ => n - (intOf i).toNat)
    case atStart => exact ⟨0, Nat.zero_le _, rfl, rfl, by simpa using hown, World.grownBy.refl _ _⟩
    case round =>
      obtain ⟨j, hj, rfl, rfl, hownj, hgr⟩ := hrel
      clear hown
      by_cases hlt : j < n
      · have s0 := mkL_set (f := mkQ) (k := k) hxl (i := j * 3) (by omega)
        have s1 := mkL_set (f := mkQ) (k := k) hxl (i := j * 3 + 1) (by omega)
        have s2 := mkL_set (f := mkQ) (k := k) hxl (i := j * 3 + 2) (by omega)
        have m0 : mkQ k (j * 3) = .string (mkS (k + j * 3)) := by rw [mkQ, if_pos (by omega)]
        have m1 : mkQ k (j * 3 + 1) = .int .i64 ((k : Int) + (j : Int) * 3 + 1) := by rw [mkQ, if_neg (by omega)]; congr 1 <;> omega
        have m2 : mkQ k (j * 3 + 2) = .int .i64 ((k : Int) + (j : Int) * 3 + 1 + 1) := by rw [mkQ, if_neg (by omega)]; congr 1 <;> omega
        rw [m0] at s0
        rw [m1] at s1
        rw [m2] at s2
        have hmt := fun W => markText_any (k + j * 3) W (by omega)
        rw [show (((k + j * 3 : Nat)) : Int) = (k : Int) + (j : Int) * 3 by omega] at hmt
        have HST : Hid (∀ W, Below wr.heap.size wr W → (∃ y, W.cell? ⟨g, j * 3, none⟩ = some y) ∧ W.frozen? ⟨g, j * 3, none⟩ = false ∧ (∃ y, (W.setCell ⟨g, j * 3, none⟩ (.string (mkS (k + j * 3)))).cell? ⟨g, j * 3 + 1, none⟩ = some y) ∧ (∃ y, ((W.setCell ⟨g, j * 3, none⟩ (.string (mkS (k + j * 3)))).setCell ⟨g, j * 3 + 1, none⟩ (.int .i64 ((k : Int) + (j : Int) * 3 + 1))).cell? ⟨g, j * 3 + 2, none⟩ = some y) ∧ W.frozen? ⟨g, j * 3 + 1, none⟩ = false ∧ W.frozen? ⟨g, j * 3 + 2, none⟩ = false ∧
            ((((W.setCell ⟨g, j * 3, none⟩ (.string (mkS (k + j * 3)))).setCell ⟨g, j * 3 + 1, none⟩ (.int .i64 ((k : Int) + (j : Int) * 3 + 1))).setCell ⟨g, j * 3 + 2, none⟩ (.int .i64 ((k : Int) + (j : Int) * 3 + 1 + 1))).ownsRow B 62 3 (.slice (some ⟨g, 0, none⟩) n cap) n ((mkL mkQ k (n * 3)).take (j * 3 + 2 + 1) ++ xs.drop (j * 3 + 2 + 1)) ∧
             w.grownBy (((W.setCell ⟨g, j * 3, none⟩ (.string (mkS (k + j * 3)))).setCell ⟨g, j * 3 + 1, none⟩ (.int .i64 ((k : Int) + (j : Int) * 3 + 1))).setCell ⟨g, j * 3 + 2, none⟩ (.int .i64 ((k : Int) + (j : Int) * 3 + 1 + 1))) (some g))) := by
          intro W hW
          have h0 := own_below hownj hW
          have o0 := (h0.stored (j * 3) (.string (mkS (k + j * 3)))).1
          rw [s0] at o0
          have o1 := (o0.stored (j * 3 + 1) (.int .i64 ((k : Int) + (j : Int) * 3 + 1))).1
          rw [s1] at o1
          have o2 := (o1.stored (j * 3 + 2) (.int .i64 ((k : Int) + (j : Int) * 3 + 1 + 1))).1
          rw [s2] at o2
          refine ⟨?_, h0.frozenAt _, ?_, ?_, h0.frozenAt _, h0.frozenAt _, o2, ?_⟩
          · rw [h0.cellAt (j * 3) (by omega)]; exact mkL_cell hxl (by omega)
          · rw [o0.cellAt (j * 3 + 1) (by omega)]; exact mkL_cell hxl (by omega)
          · rw [o1.cellAt (j * 3 + 2) (by omega)]; exact mkL_cell hxl (by omega)
          · have hg : ∀ (V : World) i u, w.grownBy V (some g) → w.grownBy (V.setCell ⟨g, i, none⟩ u) (some g) := fun V i u h =>
              ⟨h.os, h.tape, h.output, by simpa using h.size, fun q hq hne => by rw [heap_setCell_other V ⟨g, i, none⟩ q _ (fun e => hne (by simp [e]))]; exact h.block q hq hne⟩
            exact hg _ _ _ (hg _ _ _ (hg _ _ _ (mr_below hgr hW)))
        have HE : Hid ((j + 1) * 3 = j * 3 + 2 + 1) := by show _ = _; omega
        generalize mkS (k + j * 3) = ms at *
        clear s0 s1 s2 m0 m1 m2 hownj hgr
        go_wp2_with (go_at_call 46; refine (hmt _).mono ?_; rintro e w2 ⟨rfl, hb2⟩; obtain ⟨⟨y0, c0⟩, f0, ⟨y1, c1⟩, ⟨y2, c2⟩, f1, f2, hx⟩ := HST.out w2 hb2; have HX := Nm.hide hx; clear hx)
        go_roundw
        case rel => exact ⟨j + 1, by omega, by go_num, by go_num, by rw [HE.out]; exact HX.out.1, HX.out.2⟩
        case measure => simp [intOf]; omega
      · have hje : j = n := by omega
        subst hje
        rw [mkL_done hxl] at hownj
        go_wp2
        go_ret
        exact ⟨rfl, hownj, hgr⟩
end Go.Proofs.Ytljcckcdmehipaa
