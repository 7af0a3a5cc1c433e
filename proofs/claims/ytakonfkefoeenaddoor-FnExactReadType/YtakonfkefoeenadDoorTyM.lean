/- What ReadType answers: mathematics. -/
import Derived.Test.YtakonfkefoeenadDoorMnem
import Derived.Test.YtakonfkefoeenadDoorSameM
import Derived.Test.YtakonfkefoeenadDoorTxtM
namespace Go.Proofs.YtakonfkefoeenadDoor
open Go.RowKit

theorem low_dig (c : UInt8) : Nm.digB (Nm.low c) = Nm.digB c ∧ (Nm.digB c = true → Nm.low c = c) := by
  by_cases h : 65 ≤ c.toNat ∧ c.toNat ≤ 90
  · have e := Nm.low_up h
    have d0 : Nm.digB c = false := by simp [Nm.digB]; omega
    have d1 : Nm.digB (Nm.low c) = false := by simp [Nm.digB]; omega
    rw [d0, d1]
    exact ⟨rfl, fun h => by cases h⟩
  · rw [Nm.low_id h]; exact ⟨rfl, fun _ => rfl⟩
theorem all_small (l : List UInt8) : (Nm.smallL l).all Nm.digB = l.all Nm.digB := by
  induction l with
  | nil => rfl
  | cons c r ih =>
    rw [show Nm.smallL (c :: r) = Nm.low c :: Nm.smallL r from rfl, List.all_cons, List.all_cons, ih, (low_dig c).1]
theorem small_dig : ∀ {l : List UInt8}, l.all Nm.digB = true → Nm.smallL l = l := by
  intro l
  induction l with
  | nil => intro _; rfl
  | cons c r ih =>
    intro h
    rw [List.all_cons, Bool.and_eq_true] at h
    rw [show Nm.smallL (c :: r) = Nm.low c :: Nm.smallL r from rfl, ih h.2, (low_dig c).2 h.1]
theorem numO_small (s : ByteArray) (m : Nat) : numO (Nm.small s) m = numO s m := by
  unfold numO
  rw [Nm.small_size, Nm.small_data, all_small]
  by_cases h : 1 ≤ s.size ∧ s.size ≤ m ∧ s.data.toList.all Nm.digB = true
  · rw [if_pos h, if_pos h, small_dig h.2.2]
  · rw [if_neg h, if_neg h]
theorem small_extract (s : ByteArray) (a b : Nat) : (Nm.small s).extract a b = Nm.small (s.extract a b) := by
  apply Nm.ba_ext
  rw [Nm.small_data]
  simp only [ByteArray.data_extract, Array.toList_extract, List.extract_eq_take_drop]
  rw [Nm.small_data, Nm.smallL, Nm.smallL, List.map_take, List.map_drop]

/-- Does a mnemonic stand there? -/
def tyEq (s : ByteArray) (k : Nat) : Bool := (Nm.small (mnT k)).toList == (Nm.small s).toList
def tyFind (s : ByteArray) : Option Nat := (List.range 19).find? (tyEq s)
def tyTail (s : ByteArray) : Int × Int :=
  if 4 ≤ s.size ∧ ((Nm.small (s.extract 0 4)).toList == [116, 121, 112, 101]) = true then
    match numO (s.extract 4 s.size) 5 with
    | some n => if n ≤ 65535 then ((n : Int), 0) else (0, 6)
    | none => (0, 6)
  else (0, 6)
def readTyS (s : ByteArray) : Int × Int := match tyFind s with
  | some k => (mnN k, 0)
  | none => tyTail s

theorem ty_hit {s : ByteArray} {k : Nat} (hk : k < 19) (h : tyEq s k = true) (hn : ∀ j, j < k → tyEq s j = false) : readTyS s = (mnN k, 0) := by
  have : tyFind s = some k := by
    rw [tyFind, List.find?_range_eq_some]
    refine ⟨h, by simpa using hk, ?_⟩
    intro j hj
    simpa using hn j hj
  rw [readTyS, this]
theorem ty_miss {s : ByteArray} (h : ∀ j, j < 19 → tyEq s j = false) : readTyS s = tyTail s := by
  have : tyFind s = none := by
    rw [tyFind, List.find?_eq_none]
    intro j hj
    have := h j (by simpa using hj)
    simp [this]
  rw [readTyS, this]

theorem tyTail_long {s : ByteArray} (h : 9 < s.size) : tyTail s = (0, 6) := by
  rw [tyTail]
  split
  · rw [numO_len (by simp; omega)]
  · rfl
theorem ty_long {s : ByteArray} (h : 9 < s.size) : readTyS s = (0, 6) := by
  rw [ty_miss, tyTail_long h]
  intro j hj
  have hz : ∀ j, j < 19 → (mnT j).size ≤ 5 := by decide
  have := hz j hj
  rw [tyEq, beq_eq_false_iff_ne]
  intro e
  have h1 := congrArg List.length e
  rw [Nm.tl_len, Nm.tl_len, Nm.small_size, Nm.small_size] at h1
  omega
theorem ty_eq_ord (s : ByteArray) (k : Nat) : tyEq s k = decide (Nm.ordS s (mnT k) = 0) := by
  rw [tyEq, ← small_eq s (mnT k), Bool.eq_iff_iff]
  simp only [beq_iff_eq]
  exact ⟨fun h => h.symm, fun h => h.symm⟩

/-- The model's look at a type: its mnemonic, folded. -/
theorem mn_index {t : Int} (h : (mnemS t).size ≠ 0) : ∃ k, k < 19 ∧ t = mnN k := by
  apply Classical.byContradiction
  intro hn
  apply h
  apply mn_none
  intro j hj e
  exact hn ⟨j, hj, e.symm⟩
theorem mn_rises : ∀ k, k < 19 → ∀ j, j < k → mnN j < mnN k := by decide

/-- The model's walk over the types stands at t. -/
def TyAt (s : ByteArray) (t : Int) : Prop := ∀ j, j < 19 → mnN j < t → tyEq s j = false
theorem tyAt_start (s : ByteArray) : TyAt s 1 := by
  intro j hj h
  have := (mn_all hj).2.1
  omega
theorem tyAt_end {s : ByteArray} (h : TyAt s 258) : readTyS s = tyTail s := ty_miss fun j hj => h j hj (by have := (mn_all hj).2.2.1; omega)
theorem tyAt_next {s : ByteArray} {t : Int} (h : TyAt s t) (hne : ((Nm.small (mnemS t)).toList == (Nm.small s).toList) = false) : TyAt s (t + 1) := by
  intro j hj hlt
  by_cases e : mnN j = t
  · rw [tyEq, ← (mn_all hj).1, e]; exact hne
  · exact h j hj (by omega)
theorem tyAt_empty {s : ByteArray} {t : Int} (h : s.size = 0) : TyAt s t := by
  intro j hj _
  rw [tyEq, beq_eq_false_iff_ne]
  intro e
  have h1 := congrArg List.length e
  rw [Nm.tl_len, Nm.tl_len, Nm.small_size, Nm.small_size] at h1
  exact (mn_all hj).2.2.2 (by omega)
theorem tyAt_hit {s : ByteArray} {t : Int} (h : TyAt s t) (hp : s.size ≠ 0) (he : ((Nm.small (mnemS t)).toList == (Nm.small s).toList) = true) : readTyS s = (t, 0) := by
  have hz : (mnemS t).size ≠ 0 := by
    intro h0
    have h1 := congrArg List.length (beq_iff_eq.1 he)
    rw [Nm.tl_len, Nm.tl_len, Nm.small_size, Nm.small_size] at h1
    omega
  obtain ⟨k, hk, rfl⟩ := mn_index hz
  refine ty_hit hk ?_ ?_
  · rw [tyEq, ← (mn_all hk).1]; exact he
  · intro j hj
    exact h j (by omega) (mn_rises k hk j hj)
end Go.Proofs.YtakonfkefoeenadDoor
namespace Go.Proofs.YtakonfkefoeenadDoor
open Go.RowKit

theorem mnemS_len (t : Int) : (mnemS t).size ≤ 5 := by
  by_cases h : (mnemS t).size = 0
  · omega
  · obtain ⟨k, hk, rfl⟩ := mn_index h
    rw [(mn_all hk).1]
    have hz : ∀ j, j < 19 → (mnT j).size ≤ 5 := by decide
    exact hz k hk
theorem tyTail_short {s : ByteArray} (h : s.size < 5) : tyTail s = (0, 6) := by
  rw [tyTail]
  split
  · rw [numO_len (by simp; omega)]
  · rfl
theorem tyTail_not {s : ByteArray} (h : ((Nm.small (s.extract 0 4)).toList == [116, 121, 112, 101]) = false) : tyTail s = (0, 6) := by
  rw [tyTail, if_neg]
  rintro ⟨_, h2⟩
  rw [h] at h2; cases h2
theorem tyTail_none {s : ByteArray} (hn : numO (s.extract 4 s.size) 5 = none) : tyTail s = (0, 6) := by
  rw [tyTail]
  split
  · rw [hn]
  · rfl
theorem tyTail_some {s : ByteArray} {n : Nat} (h4 : 4 ≤ s.size) (h : ((Nm.small (s.extract 0 4)).toList == [116, 121, 112, 101]) = true) (hn : numO (s.extract 4 s.size) 5 = some n) : tyTail s = if n ≤ 65535 then ((n : Int), 0) else (0, 6) := by
  rw [tyTail, if_pos ⟨h4, h⟩, hn]
theorem ty_prefix (x : ByteArray) : ((Nm.small x).toList == [116, 121, 112, 101]) = decide (Nm.ordS x ⟨#[84, 89, 80, 69]⟩ = 0) := by
  rw [← small_eq]
  have e : (Nm.small ⟨#[84, 89, 80, 69]⟩).toList = [116, 121, 112, 101] := by rw [ByteArray.toList_eq]; decide
  rw [e]
def pairV (p : Int × Int) : Value := .tuple #[.int .i64 p.1, .int .i64 p.2]
end Go.Proofs.YtakonfkefoeenadDoor
