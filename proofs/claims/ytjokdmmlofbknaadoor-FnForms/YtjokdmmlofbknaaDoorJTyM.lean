import Derived.Test.YtjokdmmlofbknaaDoorJFmB
import Derived.Test.YtjokdmmlofbknaaDoorJReadM
import Derived.Test.YtjokdmmlofbknaaDoorJMkS
import Derived.Deep.RegionWith
import Derived.Test.YtjokdmmlofbknaaDoorRows
import Derived.WalkSpells
import Derived.WalkLawsBesides
import Derived.Deep.AppendLies
import Derived.Test.YtjokdmmlofbknaaDoorJJoin
import Derived.Test.YtjokdmmlofbknaaDoorJMath
import Derived.Laws.OwnMore
import Derived.Test.YtjokdmmlofbknaaDoorJFoldM
/- What ReadType answers: mathematics. -/
namespace Go.Proofs.YtjokdmmlofbknaaDoor
open Go.RowKit

theorem low_dig (c : UInt8) : Nm.digB (Nm.low c) = Nm.digB c ∧ (Nm.digB c = true → Nm.low c = c) := by
  by_cases h : 65 ≤ c.toNat ∧ c.toNat ≤ 90
  · have e := Nm.low_up h
    have d0 : Nm.digB c = false := by simp [Nm.digB]; omega
    have d1 : Nm.digB (Nm.low c) = false := by simp [Nm.digB]; omega
    rw [d0, d1]
    exact ⟨rfl, fun h => by cases h⟩
  · rw [Nm.low_id h]; exact ⟨rfl, fun _ => rfl⟩
theorem all_small (l : List UInt8) : (Nm.smallL l).all Nm.digB = l.all Nm.digB := by
  induction l with
  | nil => rfl
  | cons c r ih =>
    rw [show Nm.smallL (c :: r) = Nm.low c :: Nm.smallL r from rfl, List.all_cons, List.all_cons, ih, (low_dig c).1]
theorem small_dig : ∀ {l : List UInt8}, l.all Nm.digB = true → Nm.smallL l = l := by
  intro l
  induction l with
  | nil => intro _; rfl
  | cons c r ih =>
    intro h
    rw [List.all_cons, Bool.and_eq_true] at h
    rw [show Nm.smallL (c :: r) = Nm.low c :: Nm.smallL r from rfl, ih h.2, (low_dig c).2 h.1]
theorem numO_small (s : ByteArray) (m : Nat) : numO (Nm.small s) m = numO s m := by
  unfold numO
  rw [Nm.small_size, Nm.small_data, all_small]
  by_cases h : 1 ≤ s.size ∧ s.size ≤ m ∧ s.data.toList.all Nm.digB = true
  · rw [if_pos h, if_pos h, small_dig h.2.2]
  · rw [if_neg h, if_neg h]
theorem small_extract (s : ByteArray) (a b : Nat) : (Nm.small s).extract a b = Nm.small (s.extract a b) := by
  apply Nm.ba_ext
  rw [Nm.small_data]
  simp only [ByteArray.data_extract, Array.toList_extract, List.extract_eq_take_drop]
  rw [Nm.small_data, Nm.smallL, Nm.smallL, List.map_take, List.map_drop]

/-- Does a mnemonic stand there? -/
def tyEq (s : ByteArray) (k : Nat) : Bool := (Nm.small (mnT k)).toList == (Nm.small s).toList
def tyFind (s : ByteArray) : Option Nat := (List.range 19).find? (tyEq s)
def tyTail (s : ByteArray) : Int × Int :=
  if 4 ≤ s.size ∧ ((Nm.small (s.extract 0 4)).toList == [116, 121, 112, 101]) = true then
    match numO (s.extract 4 s.size) 5 with
    | some n => if n ≤ 65535 then ((n : Int), 0) else (0, 6)
    | none => (0, 6)
  else (0, 6)
def readTyS (s : ByteArray) : Int × Int := match tyFind s with
  | some k => (mnN k, 0)
  | none => tyTail s

theorem ty_hit {s : ByteArray} {k : Nat} (hk : k < 19) (h : tyEq s k = true) (hn : ∀ j, j < k → tyEq s j = false) : readTyS s = (mnN k, 0) := by
  have : tyFind s = some k := by
    rw [tyFind, List.find?_range_eq_some]
    refine ⟨h, by simpa using hk, ?_⟩
    intro j hj
    simpa using hn j hj
  rw [readTyS, this]
theorem ty_miss {s : ByteArray} (h : ∀ j, j < 19 → tyEq s j = false) : readTyS s = tyTail s := by
  have : tyFind s = none := by
    rw [tyFind, List.find?_eq_none]
    intro j hj
    have := h j (by simpa using hj)
    simp [this]
  rw [readTyS, this]

theorem tyTail_long {s : ByteArray} (h : 9 < s.size) : tyTail s = (0, 6) := by
  rw [tyTail]
  split
  · rw [numO_len (by simp; omega)]
  · rfl
theorem ty_long {s : ByteArray} (h : 9 < s.size) : readTyS s = (0, 6) := by
  rw [ty_miss, tyTail_long h]
  intro j hj
  have hz : ∀ j, j < 19 → (mnT j).size ≤ 5 := by decide
  have := hz j hj
  rw [tyEq, beq_eq_false_iff_ne]
  intro e
  have h1 := congrArg List.length e
  rw [Nm.tl_len, Nm.tl_len, Nm.small_size, Nm.small_size] at h1
  omega
theorem ty_eq_ord (s : ByteArray) (k : Nat) : tyEq s k = decide (Nm.ordS s (mnT k) = 0) := by
  rw [tyEq, ← small_eq s (mnT k), Bool.eq_iff_iff]
  simp only [beq_iff_eq]
  exact ⟨fun h => h.symm, fun h => h.symm⟩

/-- The model's look at a type: its mnemonic, folded. -/
theorem mn_index {t : Int} (h : (mnemS t).size ≠ 0) : ∃ k, k < 19 ∧ t = mnN k := by
  apply Classical.byContradiction
  intro hn
  apply h
  apply mn_none
  intro j hj e
  exact hn ⟨j, hj, e.symm⟩
theorem mn_rises : ∀ k, k < 19 → ∀ j, j < k → mnN j < mnN k := by decide

/-- The model's walk over the types stands at t. -/
def TyAt (s : ByteArray) (t : Int) : Prop := ∀ j, j < 19 → mnN j < t → tyEq s j = false
theorem tyAt_start (s : ByteArray) : TyAt s 1 := by
  intro j hj h
  have := (mn_all hj).2.1
  omega
theorem tyAt_end {s : ByteArray} (h : TyAt s 258) : readTyS s = tyTail s := ty_miss fun j hj => h j hj (by have := (mn_all hj).2.2.1; omega)
theorem tyAt_next {s : ByteArray} {t : Int} (h : TyAt s t) (hne : ((Nm.small (mnemS t)).toList == (Nm.small s).toList) = false) : TyAt s (t + 1) := by
  intro j hj hlt
  by_cases e : mnN j = t
  · rw [tyEq, ← (mn_all hj).1, e]; exact hne
  · exact h j hj (by omega)
theorem tyAt_empty {s : ByteArray} {t : Int} (h : s.size = 0) : TyAt s t := by
  intro j hj _
  rw [tyEq, beq_eq_false_iff_ne]
  intro e
  have h1 := congrArg List.length e
  rw [Nm.tl_len, Nm.tl_len, Nm.small_size, Nm.small_size] at h1
  exact (mn_all hj).2.2.2 (by omega)
theorem tyAt_hit {s : ByteArray} {t : Int} (h : TyAt s t) (hp : s.size ≠ 0) (he : ((Nm.small (mnemS t)).toList == (Nm.small s).toList) = true) : readTyS s = (t, 0) := by
  have hz : (mnemS t).size ≠ 0 := by
    intro h0
    have h1 := congrArg List.length (beq_iff_eq.1 he)
    rw [Nm.tl_len, Nm.tl_len, Nm.small_size, Nm.small_size] at h1
    omega
  obtain ⟨k, hk, rfl⟩ := mn_index hz
  refine ty_hit hk ?_ ?_
  · rw [tyEq, ← (mn_all hk).1]; exact he
  · intro j hj
    exact h j (by omega) (mn_rises k hk j hj)
end Go.Proofs.YtjokdmmlofbknaaDoor
namespace Go.Proofs.YtjokdmmlofbknaaDoor
open Go.RowKit

theorem mnemS_len (t : Int) : (mnemS t).size ≤ 5 := by
  by_cases h : (mnemS t).size = 0
  · omega
  · obtain ⟨k, hk, rfl⟩ := mn_index h
    rw [(mn_all hk).1]
    have hz : ∀ j, j < 19 → (mnT j).size ≤ 5 := by decide
    exact hz k hk
theorem tyTail_short {s : ByteArray} (h : s.size < 5) : tyTail s = (0, 6) := by
  rw [tyTail]
  split
  · rw [numO_len (by simp; omega)]
  · rfl
theorem tyTail_not {s : ByteArray} (h : ((Nm.small (s.extract 0 4)).toList == [116, 121, 112, 101]) = false) : tyTail s = (0, 6) := by
  rw [tyTail, if_neg]
  rintro ⟨_, h2⟩
  rw [h] at h2; cases h2
theorem tyTail_none {s : ByteArray} (hn : numO (s.extract 4 s.size) 5 = none) : tyTail s = (0, 6) := by
  rw [tyTail]
  split
  · rw [hn]
  · rfl
theorem tyTail_some {s : ByteArray} {n : Nat} (h4 : 4 ≤ s.size) (h : ((Nm.small (s.extract 0 4)).toList == [116, 121, 112, 101]) = true) (hn : numO (s.extract 4 s.size) 5 = some n) : tyTail s = if n ≤ 65535 then ((n : Int), 0) else (0, 6) := by
  rw [tyTail, if_pos ⟨h4, h⟩, hn]
theorem ty_prefix (x : ByteArray) : ((Nm.small x).toList == [116, 121, 112, 101]) = decide (Nm.ordS x ⟨#[84, 89, 80, 69]⟩ = 0) := by
  rw [← small_eq]
  have e : (Nm.small ⟨#[84, 89, 80, 69]⟩).toList = [116, 121, 112, 101] := by rw [ByteArray.toList_eq]; decide
  rw [e]
def pairV (p : Int × Int) : Value := .tuple #[.int .i64 p.1, .int .i64 p.2]
end Go.Proofs.YtjokdmmlofbknaaDoor
/- spec.l03Dec by its contract. -/
namespace Go.Proofs.YtjokdmmlofbknaaDoor
open Go.RowKit

theorem conv_kept {m : Int} {W w1 : World} (hb : Below (W.alloc (.cells #[.int .u8 m] 5)).drew.heap.size (W.alloc (.cells #[.int .u8 m] 5)).drew w1) :
    (convert 22 9 (.slice (some ⟨W.heap.size, 0, none⟩) 1 1)).run Tryd.prog w1 = .ok (.string ⟨#[UInt8.ofNat m.toNat]⟩) w1 := by
  have hc : w1.cell? ⟨W.heap.size, 0, none⟩ = some (.int .u8 m) := by
    rw [hb.cell (by simp)]
    exact World.cell?_alloc_new W _ _ 0
  rw [run_convert_bytes_string _ 22 9 5 _ _ _ Tryd.underlying22 Tryd.underlying5 Tryd.underlying9]
  have hl := run_loadCells_list (P := Tryd.prog) w1 ⟨W.heap.size, 0, none⟩ ([m].map (Value.int .u8)) (fun j v hj => by
    match j, hj with
    | 0, hj => simp at hj; subst hj; rw [Nm.addr_add]; exact hc)
  rw [run_bytesToString _ _ 1 1 [m] hl]
  rfl

end Go.Proofs.YtjokdmmlofbknaaDoor
/- spec.l03Mnemonic, spec.ShowType by their contracts. -/
namespace Go.Proofs.YtjokdmmlofbknaaDoor
open Go.RowKit

/-- What ShowType answers. -/
def showTypeS (t : Int) : ByteArray :=
  if t < 0 ∨ 65535 < t then ⟨#[]⟩ else if (mnemS t).size = 0 then ⟨#[84, 89, 80, 69]⟩ ++ decS t.toNat else mnemS t
theorem showType_out {t : Int} (h : t < 0 ∨ 65535 < t) : showTypeS t = ⟨#[]⟩ := by rw [showTypeS, if_pos h]
theorem showType_num {t : Int} (h : ¬ (t < 0 ∨ 65535 < t)) (h1 : (mnemS t).size = 0) : showTypeS t = ⟨#[84, 89, 80, 69]⟩ ++ decS t.toNat := by rw [showTypeS, if_neg h, if_pos h1]
theorem showType_mn {t : Int} (h : ¬ (t < 0 ∨ 65535 < t)) (h1 : (mnemS t).size ≠ 0) : showTypeS t = mnemS t := by rw [showTypeS, if_neg h, if_neg h1]

theorem emptyB {s : ByteArray} (h : s.size = 0) : (s.toList == []) = true ∧ (s.toList != []) = false := by
  have : s.toList = [] := List.length_eq_zero_iff.1 (by rw [Nm.tl_len]; exact h)
  simp [this]
theorem fullB {s : ByteArray} (h : s.size ≠ 0) : (s.toList == []) = false ∧ (s.toList != []) = true := by
  have : s.toList ≠ [] := by
    intro e
    have h9 := congrArg List.length e
    rw [Nm.tl_len] at h9
    exact h h9
  simp [this]

end Go.Proofs.YtjokdmmlofbknaaDoor
/- spec.l01Three by its contract. -/
namespace Go.Proofs.YtjokdmmlofbknaaDoor
open Go.RowKit

theorem conv_new (l : List UInt8) (W : World) :
    (convert 22 9 (.slice (some ⟨W.heap.size, 0, none⟩) l.length l.length)).run Tryd.prog (W.alloc (.cells (Nm.bys l).toArray 5)) = .ok (.string ⟨l.toArray⟩) (W.alloc (.cells (Nm.bys l).toArray 5)) := by
  refine run_convert_bytes_back _ 22 9 5 ⟨W.heap.size, 0, none⟩ l.length l Tryd.underlying22 Tryd.underlying5 Tryd.underlying9 ?_
  intro j hj
  exact World.news_of_block (heap_alloc_new W _) j _ (by simp [Nm.bys, hj])

theorem three_cells (c : UInt8) : [Value.int .u8 (48 + (c.toNat : Int) / 100), .int .u8 (48 + (c.toNat : Int) / 10 % 10), .int .u8 (48 + (c.toNat : Int) % 10)] = Nm.bys (Nm.threeL c) := by
  have := c.toNat_lt
  simp [Nm.bys, Nm.threeL]; omega

theorem conv_three (c : UInt8) (W : World) :
    (convert 22 9 (.slice (some ⟨W.heap.size, 0, none⟩) 3 3)).run Tryd.prog (W.alloc (.cells #[.int .u8 (48 + (c.toNat : Int) / 100), .int .u8 (48 + (c.toNat : Int) / 10 % 10), .int .u8 (48 + (c.toNat : Int) % 10)] 5)) =
      .ok (.string ⟨(Nm.threeL c).toArray⟩) (W.alloc (.cells #[.int .u8 (48 + (c.toNat : Int) / 100), .int .u8 (48 + (c.toNat : Int) / 10 % 10), .int .u8 (48 + (c.toNat : Int) % 10)] 5)) := by
  have h := conv_new (Nm.threeL c) W
  rw [← three_cells c] at h
  exact h

end Go.Proofs.YtjokdmmlofbknaaDoor
/- One byte behind a row of bytes of the call's own. -/
namespace Go.Proofs.YtjokdmmlofbknaaDoor
open Go.RowKit

theorem Tryd.infoU8x : (Tryd.prog.info? 5).map (fun i => (i.zero, i.size, i.bytes)) = some (some (.int .u8 0), 1, 1) := by kernel_rfl

/-- What one append of a byte onto a row of the call's own leaves. -/
theorem one_step {W wr w1 : World} {v v' : Value} {B n : Nat} {l : List UInt8} {c : UInt8} (hB : B ≤ wr.heap.size)
    (hown : wr.ownsRow B 5 1 v n (Nm.bys l)) (hbel : Below B W wr) (o : Obj)
    (hown' : w1.ownsRow B 5 1 v' (n + 1) (Nm.bys l ++ [.int .u8 (c.toNat : Int)])) (hgrow : (wr.alloc o).grownBy w1 v.ownBlock) :
    ∃ X, Hid (X = l ++ [c]) ∧ w1.ownsRow B 5 1 v' (n + 1) (Nm.bys X) ∧ Below B W w1 ∧ B ≤ w1.heap.size := by
  have hb : Below B W w1 := by
    refine (hbel.alloc hB o).grown hgrow (by simp; omega) ?_
    intro k hk
    exact (hown.lt k hk).1
  refine ⟨l ++ [c], rfl, by rw [Nm.bys_append]; exact hown', hb, ?_⟩
  have := hgrow.size
  simp at this
  omega

end Go.Proofs.YtjokdmmlofbknaaDoor
/- spec.ShowText by its contract. -/
namespace Go.Proofs.YtjokdmmlofbknaaDoor
open Go.RowKit

/-- A byte as it stands in a quoted text. -/
def qB (c : UInt8) : List UInt8 := if c.toNat < 32 ∨ 126 < c.toNat then 92 :: Nm.threeL c else if c.toNat = 34 ∨ c.toNat = 92 then [92, c] else [c]
def qL (l : List UInt8) : List UInt8 := l.flatMap qB
def showTextS (s : ByteArray) : ByteArray := ⟨(34 :: qL s.data.toList ++ [34]).toArray⟩

theorem qL_step {l : List UInt8} {k : Nat} {c : UInt8} (h : l[k]? = some c) : qL (l.take (k + 1)) = qL (l.take k) ++ qB c := by
  rw [Nm.take_step h]; simp [qL]
theorem qB_num {c : UInt8} (h : c.toNat < 32 ∨ 126 < c.toNat) : qB c = 92 :: Nm.threeL c := by rw [qB, if_pos h]
theorem qB_esc {c : UInt8} (h : ¬ (c.toNat < 32 ∨ 126 < c.toNat)) (h1 : c.toNat = 34 ∨ c.toNat = 92) : qB c = [92, c] := by rw [qB, if_neg h, if_pos h1]
theorem qB_own {c : UInt8} (h : ¬ (c.toNat < 32 ∨ 126 < c.toNat)) (h1 : ¬ (c.toNat = 34 ∨ c.toNat = 92)) : qB c = [c] := by rw [qB, if_neg h, if_neg h1]
theorem qB_len (c : UInt8) : (qB c).length ≤ 4 := by
  unfold qB Nm.threeL
  split
  · simp
  · split <;> simp
theorem qL_len (l : List UInt8) : (qL l).length ≤ 4 * l.length := by
  induction l with
  | nil => simp [qL]
  | cons c r ih =>
    have := qB_len c
    simp only [qL, List.flatMap_cons, List.length_append, List.length_cons] at *
    omega

theorem three_T {T : ByteArray} {c : UInt8} (h : T.data.toList = Nm.threeL c) (p0 : 0 < T.size) (p1 : 1 < T.size) (p2 : 2 < T.size) : Nm.threeL c = [T[0], T[1], T[2]] := by
  rw [← h]
  have h3 : T.size = 3 := by
    have := congrArg List.length h
    simpa [Nm.threeL] using this
  refine List.ext_getElem (by simp [h3]) ?_
  intro i h1 h2
  have hi : i < 3 := by simpa using h2
  rcases i with _ | _ | _ | i
  · rfl
  · rfl
  · rfl
  · omega

end Go.Proofs.YtjokdmmlofbknaaDoor
/- Escapes: what is shared. -/
namespace Go.Proofs.YtjokdmmlofbknaaDoor
open Go.RowKit

def escB : Option (UInt8 × Nat) → Int
  | none => 0
  | some (b, _) => b.toNat
def escN : Option (UInt8 × Nat) → Int
  | none => 0
  | some (_, n) => n
def escM : Option (UInt8 × Nat) → Int
  | none => 0
  | some (_, n) => ((n + 1 : Nat) : Int)
def escO : Option (UInt8 × Nat) → Bool
  | none => false
  | some _ => true

theorem dig_bounds {c : UInt8} (h : Nm.digB c = true) : 48 ≤ c.toNat ∧ c.toNat ≤ 57 := by
  simp [Nm.digB] at h
  omega

theorem drop_three {t : ByteArray} {k : Nat} (h : k + 3 ≤ t.size) : t.data.toList.drop k = t[k] :: t[k + 1] :: t[k + 2] :: t.data.toList.drop (k + 3) := by
  rw [Nm.drop_at (by omega : k < t.size), Nm.drop_at (by omega : k + 1 < t.size), Nm.drop_at (by omega : k + 1 + 1 < t.size)]

end Go.Proofs.YtjokdmmlofbknaaDoor
/- spec.l01Digit by its contract. -/
namespace Go.Proofs.YtjokdmmlofbknaaDoor
open Go.RowKit

end Go.Proofs.YtjokdmmlofbknaaDoor
