import Derived.Test.YtehggabhjpiclaaJWrM
import Derived.Test.YtehggabhjpiclaaJIwN
import Derived.Test.YtehggabhjpiclaaJPut
import Derived.Laws.OwnMore
import Derived.Test.YtehggabhjpiclaaJFreeB
/- Data by the places of its names: mathematics. -/
namespace Go.Proofs.Ytehggabhjpiclaa
open Go.RowKit
set_option linter.unusedVariables false

/-- The places rise from a place on, and names stand there. -/
def SpOK (d : ByteArray) : List (Nat × Nat) → Nat → Prop
  | [], a => a ≤ d.size
  | (f, t) :: r, a => a ≤ f ∧ f ≤ t ∧ t ≤ d.size ∧ (Nm.split (d.extract f t)).isSome = true ∧ SpOK d r t

theorem spok_parts : ∀ (fs : List Dt.Pc) (ps : List ByteArray) (a a0 : Nat) (d : ByteArray), fs.length = ps.length → a0 ≤ a → a ≤ d.size → Dt.catL ps = d.data.toList.drop a → NmOK fs ps → SpOK d (Dt.spansOf fs ps a) a0 := by
  intro fs
  induction fs with
  | nil =>
    intro ps a a0 d hl h0 h1 hc hn
    obtain rfl : ps = [] := List.length_eq_zero_iff.1 (by simpa using hl.symm)
    show a0 ≤ d.size
    omega
  | cons p fs ih =>
    intro ps a a0 d hl h0 h1 hc hn
    cases ps with
    | nil => simp at hl
    | cons x xs =>
      have e : Dt.catL (x :: xs) = x.data.toList ++ Dt.catL xs := by simp [Dt.catL]
      rw [e] at hc
      have hxl : x.data.toList.length = x.size := by simp
      have hsz : x.size + (Dt.catL xs).length = d.size - a := by
        have := congrArg List.length hc
        simp at this
        simpa using this
      have hc2 : Dt.catL xs = d.data.toList.drop (a + x.size) := by
        rw [← List.drop_drop, ← hc, List.drop_left' hxl]
      have hx : d.extract a (a + x.size) = x := by
        apply Nm.ba_ext
        rw [ex_list, ← hc, show a + x.size - a = x.size by omega, List.take_left' hxl]
      have hl2 : fs.length = xs.length := by simpa using hl
      rw [Dt.spansOf]
      cases hN : p.isN with
      | true =>
        simp only [if_true]
        exact ⟨h0, by omega, by omega, by rw [hx]; exact hn 0 p x rfl rfl hN, ih xs (a + x.size) (a + x.size) d hl2 (Nat.le_refl _) (by omega) hc2 hn.tail⟩
      | false =>
        simp only [Bool.false_eq_true, if_false]
        exact ih xs (a + x.size) a0 d hl2 (by omega) (by omega) hc2 hn.tail

theorem spok_end {d : ByteArray} : ∀ (sp : List (Nat × Nat)) (a : Nat), SpOK d sp a → a ≤ d.size := by
  intro sp
  induction sp with
  | nil => intro a h; exact h
  | cons p r ih => intro a h; obtain ⟨f, t⟩ := p; have := h.1; have := h.2.1; have := h.2.2.1; omega

theorem empty_none {t : Nat} {d : ByteArray} (hp : pointed t) (hd : d.size = 0) : cutS t d = none := by
  cases hc : cutS (t : Int) d with
  | none => rfl
  | some sp =>
    exfalso
    have hcc := code_zero.2 ⟨sp, hc⟩
    obtain ⟨ps, h1, _, _⟩ := good_parts hcc
    have hn := Dt.name_le d
    have hn0 : (Dt.nameAtS d).size = 0 := by omega
    rcases hp with rfl | rfl | rfl | rfl | rfl
    all_goals
      simp [Dt.specP, Dt.formS, Dt.letP, Dt.parts, Dt.sz, hn0, hd] at h1

/-- What the program does with data: by its places, or whole. -/
theorem daS_daW {t : Nat} {d : ByteArray} (h : d.size = 0 ∨ cutCode t d = 0) (s : Wst) :
    (pointed t → daS ((cutS t d).getD []) 0 d s = daW t d s ∧ SpOK d ((cutS t d).getD []) 0) ∧ (¬ pointed t → daS [] 0 d s = daW t d s) := by
  have hall : (d.extract 0 d.size).data.toList = d.data.toList := by rw [Dt.ext_all]
  constructor
  · intro hp
    by_cases hd : d.size = 0
    · rw [empty_none hp hd, daW, if_pos (.inl hd), Option.getD_none, daS, hall]
      exact ⟨rfl, Nat.zero_le _⟩
    · obtain ⟨ps, h1, h2, _⟩ := good_parts (h.resolve_left hd)
      obtain ⟨p1, p2, p3⟩ := Dt.parts_cat _ _ _ h1
      rw [h2, Option.getD_some, daW, if_neg (by simp [hd, hp]), h1, daS_parts _ _ _ _ _ _ p1 (Nat.le_refl _) (Nat.zero_le _) (by simpa using p2)]
      refine ⟨?_, spok_parts _ _ _ _ _ p1 (Nat.le_refl _) (Nat.zero_le _) (by simpa using p2) p3⟩
      have : (d.extract 0 0).data.toList = [] := by rw [ex_list]; simp
      rw [this, List.append_nil]
      rfl
  · intro hp
    rw [daW, if_pos (.inr hp), daS, hall]

theorem Bp.row {B b e s n : Nat} {w w' : World} {v : Value} {xs : List Value} (h : Bp B w w') (ho : w.ownsRow b e s v n xs) (h1 : e ≠ 5) (h2 : e ≠ 81) : w'.ownsRow b e s v n xs := by
  refine ⟨ho.1, ?_⟩
  rcases ho.2 with hn | ⟨g, cap, cur, rfl, hb, hh, r⟩
  · exact .inl hn
  · exact .inr ⟨g, cap, cur, rfl, hb, h.kp g cur e hh h1 h2, r⟩
end Go.Proofs.Ytehggabhjpiclaa
/- impl.bigBytes by its contract. -/
namespace Go.Proofs.Ytehggabhjpiclaa
open Go.RowKit

theorem big_set {w W : World} {n cap j : Nat} {xs ys : List Value} {u : Value} (h : w.ownsRow W.heap.size 5 1 (.slice (some ⟨W.heap.size, 0, none⟩) n cap) n xs) (hb : Below W.heap.size W w) (e : xs.set j u = ys) :
    (w.setCell ⟨W.heap.size, j, none⟩ u).ownsRow W.heap.size 5 1 (.slice (some ⟨W.heap.size, 0, none⟩) n cap) n ys ∧ Below W.heap.size W (w.setCell ⟨W.heap.size, j, none⟩ u) := by
  have := (h.stored j u).1
  rw [e] at this
  exact ⟨this, hb.setCell (Nat.le_refl _) _⟩

set_option maxRecDepth 100000 in
set_option maxHeartbeats 800000 in
theorem bigBytes4_any (n : Int) (w : World) (h0 : 0 ≤ n) (h1 : n ≤ 4294967295) :
    Calls Try.prog 57 #[.int .i64 n, .int .i64 4] w fun e w' => e = .returned (.string ⟨(put4 n).toArray⟩) ∧ Below w.heap.size w w' := by
  obtain ⟨i0, hi, hz0, hz1, hz2⟩ := info_parts Try.infoB
  have hcs := put4_cells n
  have e : n / 16777216 % 256 = n / 16777216 := by omega
  rw [e] at hcs
  clear e
  obtain ⟨wm, hmk, hownm, hgrm⟩ := run_make_full (P := Try.prog) w w.heap.size 42 5 i0 (.int .u8 0) 1 Try.underlying42 hi hz0 hz1 .i64 .i64 4 (by rw [hz2]; omega) (by unfold maxLen; omega) (Nat.le_refl _)
  have hbelm : Below w.heap.size w wm := (Below.refl _ _).grown hgrm (Nat.le_refl _) (by simp)
  have hz4 : (madeCells (Value.int .u8 0).cells (4 * 1)).toList = [.int .u8 0, .int .u8 0, .int .u8 0, .int .u8 0] := by kernel_rfl
  rw [hz4] at hownm
  rw [show ((4 : Nat) : Int) = 4 from rfl] at hmk
  clear hgrm hz4
  go_enter Try.func57, Try.ntmps57
  go_wp2
  go_loopw [11] (fun i wr => ∃ j : Nat, j ≤ 4 ∧ i = .int .i64 (j : Int) ∧ wr.ownsRow w.heap.size 5 1 (.slice (some ⟨w.heap.size, 0, none⟩) 4 4) 4 ([Value.int .u8 (n / 16777216), .int .u8 (n / 65536 % 256), .int .u8 (n / 256 % 256), .int .u8 (n % 256)].take j ++ [Value.int .u8 0, .int .u8 0, .int .u8 0, .int .u8 0].drop j) ∧ Below w.heap.size w wr)
    (fun i _ => (4 - intOf i).toNat)
  case atStart => exact ⟨0, by omega, rfl, hownm, hbelm⟩
  case round =>
    obtain ⟨j, hj, rfl, hown, hbel⟩ := hrel
    clear hownm hbelm hmk
    obtain rfl | rfl | rfl | rfl | rfl : j = 0 ∨ j = 1 ∨ j = 2 ∨ j = 3 ∨ j = 4 := by omega
    · simp only [List.take_zero, List.drop_zero, List.nil_append, Int.cast_ofNat_Int] at hown ⊢
      have hc : wr.cell? ⟨w.heap.size, 0, none⟩ = some (.int .u8 0) := (hown.cellAt 0 (by omega)).trans rfl
      have hfz := hown.frozenAt 0
      have R := Nm.hide (big_set (j := 0) (u := .int .u8 (n / 16777216)) hown hbel rfl)
      clear hown hbel
      go_wp2
      go_roundw
      case rel => exact ⟨1, by omega, by go_num, R.out.1, R.out.2⟩
      case measure => simp [intOf]
    · simp only [List.take_succ_cons, List.take_zero, List.drop_succ_cons, List.drop_zero, List.cons_append, List.nil_append, Int.cast_ofNat_Int] at hown ⊢
      have hc : wr.cell? ⟨w.heap.size, 1, none⟩ = some (.int .u8 0) := (hown.cellAt 1 (by omega)).trans rfl
      have hfz := hown.frozenAt 1
      have R := Nm.hide (big_set (j := 1) (u := .int .u8 (n / 65536 % 256)) hown hbel rfl)
      clear hown hbel
      go_wp2
      go_roundw
      case rel => exact ⟨2, by omega, by go_num, R.out.1, R.out.2⟩
      case measure => simp [intOf]
    · simp only [List.take_succ_cons, List.take_zero, List.drop_succ_cons, List.drop_zero, List.cons_append, List.nil_append, Int.cast_ofNat_Int] at hown ⊢
      have hc : wr.cell? ⟨w.heap.size, 2, none⟩ = some (.int .u8 0) := (hown.cellAt 2 (by omega)).trans rfl
      have hfz := hown.frozenAt 2
      have R := Nm.hide (big_set (j := 2) (u := .int .u8 (n / 256 % 256)) hown hbel rfl)
      clear hown hbel
      go_wp2
      go_roundw
      case rel => exact ⟨3, by omega, by go_num, R.out.1, R.out.2⟩
      case measure => simp [intOf]
    · simp only [List.take_succ_cons, List.take_zero, List.drop_succ_cons, List.drop_zero, List.cons_append, List.nil_append, Int.cast_ofNat_Int] at hown ⊢
      have hc : wr.cell? ⟨w.heap.size, 3, none⟩ = some (.int .u8 0) := (hown.cellAt 3 (by omega)).trans rfl
      have hfz := hown.frozenAt 3
      have R := Nm.hide (big_set (j := 3) (u := .int .u8 (n % 256)) hown hbel rfl)
      clear hown hbel
      go_wp2
      go_roundw
      case rel => exact ⟨4, by omega, by go_num, R.out.1, R.out.2⟩
      case measure => simp [intOf]
    · simp only [List.take_succ_cons, List.take_zero, List.drop_succ_cons, List.drop_zero, List.append_nil, Int.cast_ofNat_Int] at hown ⊢
      rw [← hcs] at hown
      have HC := Nm.conv_own (P := Try.prog) (src := 42) (dst := 9) Try.underlying42 Try.underlying5 Try.underlying9 hown (by omega)
      obtain ⟨g, cap, hv, hcv⟩ := HC
      cases hv
      clear hown
      go_wp2
      go_ret
      exact ⟨rfl, hbel⟩
end Go.Proofs.Ytehggabhjpiclaa
/- impl.bigBytes at width 2 by its contract. -/
namespace Go.Proofs.Ytehggabhjpiclaa
open Go.RowKit

set_option maxRecDepth 100000 in
set_option maxHeartbeats 800000 in
theorem bigBytes2_any (n : Nat) (w : World) (hn : n < 65536) :
    Calls Try.prog 57 #[.int .i64 (n : Int), .int .i64 2] w fun e w' => e = .returned (.string ⟨(put2 n).toArray⟩) ∧ Below w.heap.size w w' := by
  obtain ⟨i0, hi, hz0, hz1, hz2⟩ := info_parts Try.infoB
  have hcs := put2_cells hn
  have hn' : (n : Int) < 65536 := by omega
  obtain ⟨wm, hmk, hownm, hgrm⟩ := run_make_full (P := Try.prog) w w.heap.size 42 5 i0 (.int .u8 0) 1 Try.underlying42 hi hz0 hz1 .i64 .i64 2 (by rw [hz2]; omega) (by unfold maxLen; omega) (Nat.le_refl _)
  have hbelm : Below w.heap.size w wm := (Below.refl _ _).grown hgrm (Nat.le_refl _) (by simp)
  have hz4 : (madeCells (Value.int .u8 0).cells (2 * 1)).toList = [.int .u8 0, .int .u8 0] := by kernel_rfl
  rw [hz4] at hownm
  rw [show ((2 : Nat) : Int) = 2 from rfl] at hmk
  clear hgrm hz4
  go_enter Try.func57, Try.ntmps57
  go_wp2
  go_loopw [11] (fun i wr => ∃ j : Nat, j ≤ 2 ∧ i = .int .i64 (j : Int) ∧ wr.ownsRow w.heap.size 5 1 (.slice (some ⟨w.heap.size, 0, none⟩) 2 2) 2 ([Value.int .u8 ((n : Int) / 256), .int .u8 ((n : Int) % 256)].take j ++ [Value.int .u8 0, .int .u8 0].drop j) ∧ Below w.heap.size w wr)
    (fun i _ => (2 - intOf i).toNat)
  case atStart => exact ⟨0, by omega, rfl, hownm, hbelm⟩
  case round =>
    obtain ⟨j, hj, rfl, hown, hbel⟩ := hrel
    clear hownm hbelm hmk
    obtain rfl | rfl | rfl : j = 0 ∨ j = 1 ∨ j = 2 := by omega
    · simp only [List.take_zero, List.drop_zero, List.nil_append, Int.cast_ofNat_Int] at hown ⊢
      have hc : wr.cell? ⟨w.heap.size, 0, none⟩ = some (.int .u8 0) := (hown.cellAt 0 (by omega)).trans rfl
      have hfz := hown.frozenAt 0
      have R := Nm.hide (big_set (j := 0) (u := .int .u8 ((n : Int) / 256)) hown hbel rfl)
      clear hown hbel
      go_wp2
      go_roundw
      case rel => exact ⟨1, by omega, by go_num, R.out.1, R.out.2⟩
      case measure => simp [intOf]
    · simp only [List.take_succ_cons, List.take_zero, List.drop_succ_cons, List.drop_zero, List.cons_append, List.nil_append, Int.cast_ofNat_Int] at hown ⊢
      have hc : wr.cell? ⟨w.heap.size, 1, none⟩ = some (.int .u8 0) := (hown.cellAt 1 (by omega)).trans rfl
      have hfz := hown.frozenAt 1
      have R := Nm.hide (big_set (j := 1) (u := .int .u8 ((n : Int) % 256)) hown hbel rfl)
      clear hown hbel
      go_wp2
      go_roundw
      case rel => exact ⟨2, by omega, by go_num, R.out.1, R.out.2⟩
      case measure => simp [intOf]
    · simp only [List.take_succ_cons, List.take_zero, List.drop_succ_cons, List.drop_zero, List.append_nil, Int.cast_ofNat_Int] at hown ⊢
      rw [← hcs] at hown
      have HC := Nm.conv_own (P := Try.prog) (src := 42) (dst := 9) Try.underlying42 Try.underlying5 Try.underlying9 hown (by omega)
      obtain ⟨g, cap, hv, hcv⟩ := HC
      cases hv
      clear hown
      go_wp2
      go_ret
      exact ⟨rfl, hbel⟩
end Go.Proofs.Ytehggabhjpiclaa
