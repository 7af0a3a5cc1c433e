import Derived.Test.YtcamccoaoiobdaaGreatJMath
import Derived.Test.YtcamccoaoiobdaaGreatJMsP
import Derived.Test.YtcamccoaoiobdaaGreatJSCmp
import Derived.Test.YtcamccoaoiobdaaGreatJSSmall
import Derived.RangeFuncNested
import Derived.RangeFuncBound
import Derived.RangeFuncCalls
import Derived.RangeFuncLeaves
import Derived.Shelf.Abstract
import Derived.Shelf.RegionOpen
import Derived.WalkKit
import Derived.OwnWalkIn
import Derived.TacticsInMore
import Derived.LoopNIn
import Derived.LoopIn
import Derived.Test.YtcamccoaoiobdaaGreatJTbGI
import Derived.RangeFuncBox
import Derived.Maps.AppendAt
/- Zones as they come in: mathematics. -/
namespace Go.Proofs.YtcamccoaoiobdaaGreat
open Go.RowKit
set_option linter.unusedVariables false

/-- A set: its owner, type, time and data. -/
structure Sz where
  own : ByteArray
  ty : Int
  tt : Int
  da : List ByteArray

/-- A set, and the value of its slice of data. -/
abbrev Zp : Type := Sz × Value
def zpV (p : Zp) : List Value := [.string p.1.own, .int .i64 p.1.ty, .int .i64 p.1.tt, p.2]
def zpVs (ps : List Zp) : List Value := ps.flatMap zpV
theorem zpVs_cons (x : Zp) (xs : List Zp) : zpVs (x :: xs) = zpV x ++ zpVs xs := by simp [zpVs]
theorem zpVs_app (a b : List Zp) : zpVs (a ++ b) = zpVs a ++ zpVs b := by simp [zpVs]
theorem zpVs_len (xs : List Zp) : (zpVs xs).length = xs.length * 4 := by
  induction xs with
  | nil => rfl
  | cons x xs ih =>
    have : (zpV x).length = 4 := rfl
    rw [zpVs_cons, List.length_append, ih, List.length_cons, this]; omega
theorem zpVs_at : ∀ (xs : List Zp) (k j : Nat) (x : Zp), xs[k]? = some x → j < 4 → (zpVs xs)[k * 4 + j]? = (zpV x)[j]? := by
  intro xs
  induction xs with
  | nil => intro k j x h; simp at h
  | cons y xs ih =>
    intro k j x h hj
    have hl : (zpV y).length = 4 := rfl
    cases k with
    | zero =>
      simp at h; subst h
      rw [zpVs_cons, Nat.zero_mul, Nat.zero_add, List.getElem?_append_left (by omega)]
    | succ k =>
      simp at h
      rw [zpVs_cons, List.getElem?_append_right (by omega), hl, show (k + 1) * 4 + j - 4 = k * 4 + j by omega]
      exact ih k j x h hj
theorem zp_cells {w : World} {xs : List Zp} {b off k : Nat} {x : Zp} (hc : ∀ (i : Nat) (y : Value), (zpVs xs)[i]? = some y → w.cell? ⟨b, off + i, none⟩ = some y) (h : xs[k]? = some x) :
    w.cell? ⟨b, off + k * 4, none⟩ = some (.string x.1.own) ∧ w.cell? ⟨b, off + k * 4 + 1, none⟩ = some (.int .i64 x.1.ty) ∧ w.cell? ⟨b, off + k * 4 + 2, none⟩ = some (.int .i64 x.1.tt) ∧ w.cell? ⟨b, off + k * 4 + 3, none⟩ = some x.2 :=
  ⟨hc (k * 4) _ ((zpVs_at xs k 0 x h (by decide)).trans rfl), hc (k * 4 + 1) _ ((zpVs_at xs k 1 x h (by decide)).trans rfl), hc (k * 4 + 2) _ ((zpVs_at xs k 2 x h (by decide)).trans rfl), hc (k * 4 + 3) _ ((zpVs_at xs k 3 x h (by decide)).trans rfl)⟩

/-- A slice of sets that is read. -/
def ZRow (w : World) (v : Value) (ps : List Zp) : Prop := CRow w v ps.length 4 (zpVs ps) ∧ ∀ p ∈ ps, Nm.SRow w p.2 p.1.da
theorem ZRow.below {w W : World} {v : Value} {ps : List Zp} (h : ZRow w v ps) (hb : Below w.heap.size w W) : ZRow W v ps := ⟨h.1.below hb, fun p hp => (h.2 p hp).below hb⟩

def zs1 (s : Sz) : Nat := s.own.size + (s.da.length + ssum s.da)
def zsum : List Zp → Nat
  | [] => 0
  | x :: xs => zs1 x.1 + zsum xs
theorem zsum_step : ∀ (xs : List Zp) (k : Nat) (x : Zp), xs[k]? = some x → zsum (xs.take (k + 1)) = zsum (xs.take k) + zs1 x.1 := by
  intro xs
  induction xs with
  | nil => intro k x h; simp at h
  | cons y xs ih =>
    intro k x h
    cases k with
    | zero => simp at h; subst h; simp [zsum]
    | succ k =>
      simp at h
      have := ih k x h
      simp only [List.take_succ_cons, zsum]; omega
theorem zsum_take_le : ∀ (xs : List Zp) (k : Nat), zsum (xs.take k) ≤ zsum xs := by
  intro xs
  induction xs with
  | nil => intro k; simp [zsum]
  | cons y xs ih =>
    intro k
    cases k with
    | zero => simp [zsum]
    | succ k => have := ih k; simp only [List.take_succ_cons, zsum]; omega
theorem zsum_mem : ∀ (xs : List Zp) (x : Zp), x ∈ xs → zs1 x.1 ≤ zsum xs := by
  intro xs
  induction xs with
  | nil => intro x h; simp at h
  | cons y xs ih =>
    intro x h
    rcases List.mem_cons.1 h with rfl | h
    · simp only [zsum]; omega
    · have := ih x h; simp only [zsum]; omega
def szZ1 (s : Sz) (L : Int) : Int := if (zs1 s : Int) ≤ L then L - zs1 s else -1
def szZS (ps : List Zp) (L : Int) : Int := if (ps.length : Int) + (zsum ps : Int) ≤ L then L - ps.length - zsum ps else -1
def szZ (a : ByteArray) (ps : List Zp) (L : Int) : Int := if (a.size : Int) + ps.length + (zsum ps : Int) ≤ L then L - a.size - ps.length - zsum ps else -1
/-- Strings that are not too great for any machine. -/
def ZFit (ps : List Zp) : Prop := ∀ p ∈ ps, p.1.own.size ≤ maxLen ∧ ∀ x ∈ p.1.da, x.size ≤ maxLen
end Go.Proofs.YtcamccoaoiobdaaGreat
/- What the model builds of records: mathematics. -/
namespace Go.Proofs.YtcamccoaoiobdaaGreat
open Go.RowKit
set_option linter.unusedVariables false

def itemOf (r : Rr) : It := ⟨r, Nm.foldS r.own, foldR r.ty r.da, false⟩
/-- The first record that is ill by itself. -/
def badOne (apex : ByteArray) : List Rr → Nat → Option (Int × Nat)
  | [], _ => none
  | r :: rs, i => if oneC r apex = 0 then badOne apex rs (i + 1) else some (oneC r apex, i)
theorem badOne_at {apex : ByteArray} : ∀ (l : List Rr) (k i : Nat) (r : Rr), (∀ (j : Nat) (x : Rr), j < k → l[j]? = some x → oneC x apex = 0) → l[k]? = some r → oneC r apex ≠ 0 → badOne apex l i = some (oneC r apex, i + k) := by
  intro l
  induction l with
  | nil => intro k i r _ h; simp at h
  | cons x l ih =>
    intro k i r hno hr hp
    cases k with
    | zero =>
      simp at hr; subst hr
      rw [badOne, if_neg hp]; rfl
    | succ k =>
      simp at hr
      rw [badOne, if_pos (hno 0 x (by omega) rfl), ih k (i + 1) r (fun j y hj hy => hno (j + 1) y (by omega) (by simpa using hy)) hr hp]
      congr 2
      omega
theorem badOne_no {apex : ByteArray} : ∀ (l : List Rr) (i : Nat), (∀ (j : Nat) (x : Rr), j < l.length → l[j]? = some x → oneC x apex = 0) → badOne apex l i = none := by
  intro l
  induction l with
  | nil => intro i _; rfl
  | cons x l ih =>
    intro i hno
    rw [badOne, if_pos (hno 0 x (by simp) rfl)]
    exact ih (i + 1) (fun j y hj hy => hno (j + 1) y (by simp; omega) (by simpa using hy))

def addLast (acc : List Sz) (d : ByteArray) : List Sz := match acc.getLast? with
  | some s => acc.dropLast ++ [{ s with da := s.da ++ [d] }]
  | none => []
/-- Whether the k-th of sorted records begins a set. -/
def newSet (srt : List It) (k : Nat) (x : It) : Bool := match k with
  | 0 => true
  | k + 1 => match srt[k]? with
    | some y => decide (y.fo ≠ x.fo) || decide (y.r.ty ≠ x.r.ty)
    | none => true
/-- The sets of the first k of sorted records. -/
def grpK (l srt : List It) : Nat → List Sz
  | 0 => []
  | k + 1 => match srt[k]? with
    | some x => if newSet srt k x then grpK l srt k ++ [⟨ownI l x.fo, x.r.ty, x.r.tt, [x.r.da]⟩] else addLast (grpK l srt k) x.r.da
    | none => grpK l srt k
theorem grpK_new {l srt : List It} {k : Nat} {x : It} (h : srt[k]? = some x) (hn : newSet srt k x = true) : grpK l srt (k + 1) = grpK l srt k ++ [⟨ownI l x.fo, x.r.ty, x.r.tt, [x.r.da]⟩] := by
  rw [grpK, h]; simp [hn]
theorem grpK_old {l srt : List It} {k : Nat} {x : It} {qs : List Sz} {s : Sz} (h : srt[k]? = some x) (hn : newSet srt k x = false) (hg : grpK l srt k = qs ++ [s]) : grpK l srt (k + 1) = qs ++ [{ s with da := s.da ++ [x.r.da] }] := by
  rw [grpK, h]; simp [hn, hg, addLast]
theorem grpK_last {l srt : List It} : ∀ (k : Nat), 0 < k → k ≤ srt.length → ∃ qs s, grpK l srt k = qs ++ [s] := by
  intro k
  induction k with
  | zero => intro h; omega
  | succ k ih =>
    intro _ hk
    obtain ⟨x, hx⟩ : ∃ x, srt[k]? = some x := ⟨_, List.getElem?_eq_getElem (by omega)⟩
    cases hn : newSet srt k x with
    | true => exact ⟨_, _, grpK_new hx hn⟩
    | false =>
      have hk0 : 0 < k := by
        rcases Nat.eq_zero_or_pos k with h | h
        · subst h; simp [newSet] at hn
        · exact h
      obtain ⟨qs, s, e⟩ := ih hk0 (by omega)
      exact ⟨_, _, grpK_old hx hn e⟩
theorem grpK_len {l srt : List It} : ∀ (k : Nat), k ≤ srt.length → (grpK l srt k).length ≤ k ∧ ∀ s ∈ grpK l srt k, s.da.length ≤ k := by
  intro k
  induction k with
  | zero => intro _; exact ⟨Nat.le_refl _, by simp [grpK]⟩
  | succ k ih =>
    intro hk
    obtain ⟨h1, h2⟩ := ih (by omega)
    obtain ⟨x, hx⟩ : ∃ x, srt[k]? = some x := ⟨_, List.getElem?_eq_getElem (by omega)⟩
    cases hn : newSet srt k x with
    | true =>
      rw [grpK_new hx hn]
      refine ⟨by simp; omega, fun s hs => ?_⟩
      rcases List.mem_append.1 hs with h | h
      · have := h2 s h; omega
      · simp at h; subst h; simp
    | false =>
      have hk0 : 0 < k := by
        rcases Nat.eq_zero_or_pos k with h | h
        · subst h; simp [newSet] at hn
        · exact h
      obtain ⟨qs, s, e⟩ := grpK_last (l := l) (srt := srt) k hk0 (by omega)
      rw [grpK_old hx hn e]
      rw [e] at h1 h2
      refine ⟨by simp at h1 ⊢; omega, fun t ht => ?_⟩
      rcases List.mem_append.1 ht with h | h
      · have := h2 t (List.mem_append.2 (.inl h)); omega
      · simp at h
        subst h
        have := h2 s (by simp)
        simp; omega

def itsOf (list : List Rr) : List It := twI (list.map itemOf)
def restOf (list : List Rr) : List It := (itsOf list).filter fun x => !x.out
def srtOf (list : List Rr) : List It := sortI (restOf list)
/-- The sets of a zone of records. -/
def bldZ (list : List Rr) : List Sz := grpK (itsOf list) (srtOf list) (srtOf list).length
/-- The code, and the place of what is wrong. -/
def bldE (list : List Rr) (apex : ByteArray) : Int × Int :=
  if (Nm.split apex).isSome = false then (32, -1) else if 500 < list.length then (12, -1) else
  match badOne apex list 0 with
  | some (c, i) => (c, i)
  | none => if 0 ≤ badI (list.map itemOf) then (24, badI (list.map itemOf)) else if (rulesI (itsOf list) (Nm.foldS apex)).1 ≠ 0 then rulesI (itsOf list) (Nm.foldS apex) else (0, 0)
end Go.Proofs.YtcamccoaoiobdaaGreat
/- (*table).all: a range over a table's rows, by its contract. -/
namespace Go.Proofs.YtcamccoaoiobdaaGreat
open Go.RowKit Go.Shelf
set_option linter.unusedVariables false
attribute [local go_sem] Oper.semAt_some

set_option maxRecDepth 100000 in
set_option maxHeartbeats 2000000 in
theorem all1S_in {α : Type} (kf vf : α → ByteArray) (F : Fence) (n : Nat) (h7 : F.fn 124) (hro : F.round = none) (hn : 1 ≤ n) (l tb g n₀ b off cap : Nat) (cmpv : Value) (zs : List α) (hl : zs.length ≤ 1000000) (hcap : zs.length ≤ cap ∧ cap ≤ maxLen) (hb : b < n₀) (J Jx : List α → World → Prop)
    (hJ : ∀ s W W', J s W → W.grownBy W' none → J s W')
    (hY : ∀ pre x W, J pre W → pre.length < zs.length → YieldAt F (n - 1) Tryz.prog l #[(Value.string (kf x)), (Value.string (vf x))] W fun e W' =>
      (e = .returned (.bool true) ∧ J (pre ++ [x]) W' ∧ Below n₀ W W') ∨ (e = .returned (.bool false) ∧ Jx (pre ++ [x]) W'))
    (W : World) (kb : W.cell? ⟨tb, 0, none⟩ = some (.pointer (some ⟨g, 0, none⟩))) (kg : W.cell? ⟨g, 1, none⟩ = some (.slice (some ⟨b, off, none⟩) zs.length cap))
    (hc : ∀ (i : Nat) (x : α), zs[i]? = some x → W.cell? ⟨b, off + i * 2, none⟩ = some (Value.string (kf x)) ∧ W.cell? ⟨b, off + i * 2 + 1, none⟩ = some (Value.string (vf x))) (hn₀ : n₀ ≤ W.heap.size) (h0 : J [] W) :
    CallsIn F n Tryz.prog 124 #[.func (.yield l) #[] #[], .pointer (some ⟨tb, 0, none⟩)] W fun e W' => (∃ v, e = .returned v) ∧
      ((∃ ys, ys = zs ∧ J ys W') ∨ (∃ pre, pre <+: zs ∧ Jx pre W')) := by
  obtain ⟨hcap1, hcap2⟩ := hcap
  unfold maxLen at hcap2
  refine callsIn_of_wp Tryz.func124 rfl h7 ?_ hro
  simp only [Tryz.ntmps124, List.size_toArray, List.length_cons, List.length_nil, Nat.reduceAdd, Nat.reduceSub, Array.replicate_succ, Array.replicate_zero, List.push_toArray, List.append_toArray, List.nil_append, List.cons_append]
  gi_wp2
  gi_loopw [10] (fun i wr => ∃ k : Nat, k ≤ zs.length ∧ i = .int .i64 k ∧ J (zs.take k) wr ∧ Below n₀ W wr)
    (fun i _ => zs.length - (intOf i).toNat)
  case atStart => exact ⟨0, Nat.zero_le _, rfl, by simpa using h0, Below.refl _ _⟩
  case round =>
    obtain ⟨k, hk, rfl, hJs, hnx⟩ := hrel
    by_cases hlt : k < zs.length
    · obtain ⟨x, hx⟩ : ∃ x, zs[k]? = some x := ⟨_, List.getElem?_eq_getElem hlt⟩
      obtain ⟨c0, c1⟩ := hc k x hx
      have d0 : wr.cell? ⟨b, off + k * 2, none⟩ = some (Value.string (kf x)) := (hnx.cell (p := ⟨b, off + k * 2, none⟩) hb).trans c0
      have d1 : wr.cell? ⟨b, off + k * 2 + 1, none⟩ = some (Value.string (vf x)) := (hnx.cell (p := ⟨b, off + k * 2 + 1, none⟩) hb).trans c1
      have hal : ∀ o : Obj, wr.grownBy (wr.alloc o) none := fun o => ⟨rfl, rfl, rfl, by simp, fun q hq _ => heap_alloc_old wr _ hq⟩
      obtain ⟨fn, tmps, assign, body, hy, hR⟩ := hY _ x (wr.alloc (.cells #[(Value.string (kf x)), (Value.string (vf x))] 173)) (hJ _ _ _ hJs (hal _)) (by rw [List.length_take]; omega)
      have n1 : (0 : Int) ≤ (k : Int) := by omega
      have n2 : (k : Int) < (zs.length : Int) := by omega
      have hbw : Below n₀ W (wr.alloc (.cells #[(Value.string (kf x)), (Value.string (vf x))] 173)) := hnx.alloc (Nat.le_trans hn₀ hnx.size) _
      have HT : Hid (zs.take (k + 1) = zs.take k ++ [x]) := by
        obtain ⟨hk', e⟩ := List.getElem?_eq_some_iff.1 hx
        show _ = _
        rw [List.take_succ_eq_append_getElem hk', e]
      clear hc c0 c1 hx
      gi_wp2
      refine hR.mono ?_
      rintro e W3 (⟨rfl, hJ3, hk3⟩ | ⟨rfl, hJx3⟩)
      · gi_wp2
        go_roundw
        case rel => exact ⟨k + 1, by omega, by go_num, by rw [HT.out]; exact hJ3, hbw.trans hk3⟩
        case measure => simp [intOf]; omega
      · gi_wp2
        refine bodyPost_ret (results_none rfl _ _ _) rfl ?_
        exact ⟨⟨_, rfl⟩, .inr ⟨_, by rw [← HT.out]; exact List.take_prefix _ _, hJx3⟩⟩
    · obtain rfl : k = zs.length := by omega
      have n2 : (zs.length : Int) ≤ (zs.length : Int) := by omega
      rw [List.take_length] at hJs
      clear hc
      gi_wp2
      go_end0
      exact ⟨⟨_, rfl⟩, .inl ⟨_, rfl, hJs⟩⟩
end Go.Proofs.YtcamccoaoiobdaaGreat
/- (*table).all: the iterator as it is handed to a loop. -/
namespace Go.Proofs.YtcamccoaoiobdaaGreat
open Go.RowKit Go.Shelf
set_option linter.unusedVariables false
attribute [local go_sem] Oper.semAt_some

/-- The rows zs lie below n₀ in the slice sv. -/
def RwsS {α : Type} (kf vf : α → ByteArray) (n₀ : Nat) (W : World) (sv : Value) (zs : List α) : Prop :=
  (sv = .slice none 0 0 ∧ zs = []) ∨ ∃ b off cap, sv = .slice (some ⟨b, off, none⟩) zs.length cap ∧ b < n₀ ∧ (zs.length ≤ cap ∧ cap ≤ maxLen) ∧
    ∀ (i : Nat) (x : α), zs[i]? = some x → W.cell? ⟨b, off + i * 2, none⟩ = some (Value.string (kf x)) ∧ W.cell? ⟨b, off + i * 2 + 1, none⟩ = some (Value.string (vf x))

theorem RwsS.below {α : Type} {kf vf : α → ByteArray} {n₀ : Nat} {W W' : World} {sv : Value} {zs : List α} (h : RwsS kf vf n₀ W sv zs) (hB : Below n₀ W W') : RwsS kf vf n₀ W' sv zs := by
  rcases h with h | ⟨b, off, cap, e, hb, hcp, hc⟩
  · exact .inl h
  · exact .inr ⟨b, off, cap, e, hb, hcp, fun i x hx => ⟨(hB.cell (p := ⟨b, off + i * 2, none⟩) hb).trans (hc i x hx).1, (hB.cell (p := ⟨b, off + i * 2 + 1, none⟩) hb).trans (hc i x hx).2⟩⟩

/-- A row of one's own is such a row. -/
theorem rwsS_own {α : Type} (kf vf : α → ByteArray) {w : World} {B e : Nat} {v : Value} (zs : List α) (h : w.ownsRow B e 2 v zs.length (rowCs (zs.map fun x => ((Value.string (kf x)), (Value.string (vf x)))))) : RwsS kf vf w.heap.size w v zs := by
  have h' := h
  rcases h.2 with ⟨rfl, h0⟩ | ⟨q, cap, cur, rfl, hb, hh, hc1, hc2, hcs, ht⟩
  · exact .inl ⟨rfl, List.length_eq_zero_iff.1 h0⟩
  · refine .inr ⟨q, 0, cap, rfl, (Array.getElem?_eq_some_iff.1 hh).1, ⟨hc1, hc2⟩, fun i x hx => ?_⟩
    have hi := (List.getElem?_eq_some_iff.1 hx).1
    have hm : (zs.map fun x => ((Value.string (kf x)), (Value.string (vf x))))[i]? = some ((Value.string (kf x)), (Value.string (vf x))) := by simp [hx]
    have a0 := rowCs_at _ i 0 _ hm (by decide)
    have a1 := rowCs_at _ i 1 _ hm (by decide)
    have c0 := h'.cellAt (i * 2) (by omega)
    have c1 := h'.cellAt (i * 2 + 1) (by omega)
    exact ⟨by rw [Nat.zero_add, c0]; exact a0, by rw [Nat.zero_add, c1]; exact a1⟩

set_option maxRecDepth 100000 in
set_option maxHeartbeats 2000000 in
theorem all1nS_in {α : Type} (F : Fence) (n : Nat) (h7 : F.fn 124) (hro : F.round = none) (l tb g : Nat) (J : List α → World → Prop) (W : World)
    (kb : W.cell? ⟨tb, 0, none⟩ = some (.pointer (some ⟨g, 0, none⟩))) (kg : W.cell? ⟨g, 1, none⟩ = some (.slice none 0 0)) (h0 : J [] W) :
    CallsIn F n Tryz.prog 124 #[.func (.yield l) #[] #[], .pointer (some ⟨tb, 0, none⟩)] W fun e W' => (∃ v, e = .returned v) ∧ J [] W' := by
  refine callsIn_of_wp Tryz.func124 rfl h7 ?_ hro
  simp only [Tryz.ntmps124, List.size_toArray, List.length_cons, List.length_nil, Nat.reduceAdd, Nat.reduceSub, Array.replicate_succ, Array.replicate_zero, List.push_toArray, List.append_toArray, List.nil_append, List.cons_append]
  gi_wp2
  gi_loopw [10] (fun i wr => i = .int .i64 0 ∧ J [] wr) (fun _ _ => 0)
  case atStart => exact ⟨rfl, h0⟩
  case round =>
    obtain ⟨rfl, hJs⟩ := hrel
    gi_wp2
    go_end0
    exact ⟨⟨_, rfl⟩, hJs⟩

set_option maxRecDepth 100000 in
set_option maxHeartbeats 2000000 in
theorem allS_in (F : Fence) (n : Nat) (h6 : F.fn 108) (hro : F.round = none) (p : Option Addr) (w : World) :
    CallsIn F n Tryz.prog 108 #[.pointer p] w fun e w' => e = .returned (.func (.func 124) #[] #[.pointer (some ⟨w.heap.size, 0, none⟩)]) ∧ w' = w.alloc (.cells #[.pointer p] 112) := by
  refine callsIn_of_wp Tryz.func108 rfl h6 ?_ hro
  simp only [Tryz.ntmps108, List.size_toArray, List.length_cons, List.length_nil, Nat.reduceAdd, Nat.reduceSub, Array.replicate_succ, Array.replicate_zero, List.push_toArray, List.append_toArray, List.nil_append, List.cons_append]
  gi_wp2
  go_ret
  exact ⟨rfl, rfl⟩

theorem allStopsS {α : Type} (kf vf : α → ByteArray) (F : Fence) (n : Nat) (h7 : F.fn 124) (hro : F.round = none) (hn : 1 ≤ n) (tb g n₀ : Nat) (sv : Value) (zs : List α) (hl : zs.length ≤ 1000000) (w : World) (htb : tb < w.heap.size) (hg : g < n₀) (hn₀ : n₀ ≤ w.heap.size)
    (kb : w.cell? ⟨tb, 0, none⟩ = some (.pointer (some ⟨g, 0, none⟩))) (kg : w.cell? ⟨g, 1, none⟩ = some sv) (hR : RwsS kf vf n₀ w sv zs) :
    SeqStopsK F n Tryz.prog 124 #[.pointer (some ⟨tb, 0, none⟩)] (fun x : α => #[(Value.string (kf x)), (Value.string (vf x))]) (Below n₀) (fun ys => ys = zs) (fun pre => pre <+: zs) zs.length w := fun l J Jx W hW hJ _ hY h0 => by
  have kb' := (hW.cell (p := ⟨tb, 0, none⟩) htb).trans kb
  have kg' := (hW.cell (p := ⟨g, 1, none⟩) (Nat.lt_of_lt_of_le hg hn₀)).trans kg
  rcases hR.below (hW.mono hn₀) with ⟨rfl, rfl⟩ | ⟨b, off, cap, rfl, hb, hcp, hcs⟩
  · exact (all1nS_in F n h7 hro l tb g J W kb' kg' h0).mono fun e W' ⟨he, hj⟩ => ⟨he, .inl ⟨_, rfl, hj⟩⟩
  · exact all1S_in kf vf F n h7 hro hn l tb g n₀ b off cap (.pointer none) zs hl hcp hb J Jx (fun s W1 W2 hs hgr => hJ s W1 W2 none hs hgr (fun r e => by cases e)) hY W kb' kg' hcs (Nat.le_trans hn₀ hW.size) h0
end Go.Proofs.YtcamccoaoiobdaaGreat
/- impl.valuesOf of strings: the values of a table, one behind the other, in a row of one's own. -/
namespace Go.Proofs.YtcamccoaoiobdaaGreat
open Go.RowKit Go.Shelf
set_option linter.unusedVariables false
attribute [local go_sem] Oper.semAt_some

theorem infoStrV : (Tryz.prog.info? 9).map (fun i => (i.zero, i.size, i.bytes)) = some (some (.string ByteArray.empty), 1, 16) := by kernel_rfl

set_option maxRecDepth 100000 in
set_option maxHeartbeats 2000000 in
theorem valuesOf_in (F : Fence) (n : Nat) (h3 : F.fn 84) (h4 : F.fn 108) (h5 : F.fn 124) (hro : F.round = none) (hn : 3 ≤ n)
    (g : Nat) (sv : Value) (zs : List (ByteArray × ByteArray)) (hl : zs.length ≤ 1000000) (w : World) (hg : g < w.heap.size) (kg : w.cell? ⟨g, 1, none⟩ = some sv) (hR : RwsS (fun p : ByteArray × ByteArray => p.1) (fun p => p.2) w.heap.size w sv zs) :
    CallsIn F n Tryz.prog 84 #[.pointer (some ⟨g, 0, none⟩)] w fun e W' => ∃ v, e = .returned v ∧ W'.ownsRow w.heap.size 9 1 v zs.length (zs.map fun p => .string p.2) ∧ Below w.heap.size w W' := by
  have h1 : 1 ≤ n := by omega
  obtain ⟨i0, hi, hz0, hz1, hz2⟩ := info_parts infoStrV
  refine callsIn_of_wp_marks Tryz.func84 rfl h3 ?_ hro
  simp only [Tryz.ntmps84, List.size_toArray, List.length_cons, List.length_nil, Nat.reduceAdd, Nat.reduceSub, Array.replicate_succ, Array.replicate_zero, List.push_toArray, List.append_toArray, List.nil_append, List.cons_append]
  gi_wp2_with (gi_at_call 108; refine (allS_in F (n - 1) h4 hro _ _).mono ?_; rintro e w' ⟨rfl, rfl⟩)
  have bO := Boxed.new w 52 (.slice none 0 0)
  have bN := Boxed.new (w.alloc (.cells #[.slice none 0 0] 52)) 112 (.pointer (some ⟨g, 0, none⟩))
  rw [World.size_alloc] at bN
  have hB0 : Below w.heap.size w ((w.alloc (.cells #[.slice none 0 0] 52)).alloc (.cells #[.pointer (some ⟨g, 0, none⟩)] 112)) := ((Below.refl _ w).alloc (Nat.le_refl _) _).alloc (by simp) _
  have kg2 := (hB0.cell (p := ⟨g, 1, none⟩) hg).trans kg
  refine wpIn_rangeFunc_ownG hro h1 (gf := 124) (lb := #[.pointer (some ⟨w.heap.size + 1, 0, none⟩)]) rfl h5 (enters_of Tryz.func124 (by kernel_rfl) rfl)
    (allStopsS (fun p : ByteArray × ByteArray => p.1) (fun p => p.2) F (n - 1) h5 hro (by omega) (w.heap.size + 1) g w.heap.size sv zs hl _ (by simp) hg (by simp; omega) bN.cell kg2 (hR.below hB0)) belowK_t (belowK_b (by simp; omega)) (Below.refl _ _) (fun _ => rfl)
    (fun pre W => (∃ v, Boxed W w.heap.size 52 v ∧ W.ownsRow w.heap.size 9 1 v pre.length (pre.map fun p => .string p.2) ∧ True) ∧ Below w.heap.size w W)
    (fun _ _ _ => False)
    (OwnFrom.and (Own.from (holdsRow_own w.heap.size w.heap.size 52 9 1 (fun pre : List (ByteArray × ByteArray) => pre.length) (fun pre => pre.map fun p => .string p.2) (fun pre v => True)) _) (ownFrom_below (Nat.le_refl _) (by simp; omega)))
    (fun _ _ _ _ _ hs _ _ => hs)
    ⟨⟨_, bO.alloc _, World.ownsRow_nil _ _ _ _, trivial⟩, hB0⟩
    (fun x => { tmps := #[.pointer (some ⟨g, 0, none⟩), undef, .slice none 0 0, .pointer (some ⟨w.heap.size, 0, none⟩), undef, .string x.2, .pointer (some ⟨g, 0, none⟩), .func (.func 124) #[] #[.pointer (some ⟨w.heap.size + 1, 0, none⟩)], .string x.1, .string x.2, undef, undef, undef, undef, undef], defers := [] }) ?assign ?body ?done ?stop
  case assign =>
    intro l x W K hK
    gi_wp2
    exact hK
  case body =>
    rintro l pre x W ⟨⟨v, hv, hrow, -⟩, hB⟩ hlt
    have hc := hv.cell
    have hm : zs.length ≤ maxLen := by unfold maxLen; omega
    gi_wp2_with (gi_at_builtin; refine wpListIn_append_own _ rfl _ _ 52 rfl w.heap.size 9 i0 (.string ByteArray.empty) 1 16 Tryz.underlying52 hi hz0 hz1 hz2 rfl (by decide) _ _ _ rfl (hrow.alloc _) ⟨W.heap.size, 0, none⟩ 1 1 [.string x.2] rfl rfl (cell_one_new _ _ _) (by simp [Value.oneCell']) (by omega) (by omega) (by have := hB.size; simp; omega) ?_; intro v' w1 hown' hgrow _; obtain ⟨g', cap', rfl⟩ := ownsRow_succ hown'; obtain ⟨hv1, hv2, hr2, hk2, hb2⟩ := hv.appended (by decide) hrow hB.size (Nat.le_refl _) hown' hgrow; have hc1 := hv1.cell; have hf1 := hv1.frozen)
    exact ⟨hk2.from _, hb2, ⟨_, hv2, by simpa using hr2, trivial⟩, hB.trans hb2⟩
  case done =>
    rintro D ys W hD rfl ⟨⟨v, hv, hrow, -⟩, hB⟩ hK
    have hc := hv.cell
    gi_wp2
    refine ⟨by simp, .inl ⟨_, _, rfl, run_takeDeferred hK, ?_⟩⟩
    exact ⟨_, results_tmp rfl _ _ _, v, rfl, ownsRow_putObj hrow _ hK rfl, hB.trans (belowK_b (w := w) (Nat.le_refl _) W D _ _ (by simp at hD; omega) hK rfl rfl)⟩
  case stop =>
    rintro D c pre W _ _ h _
    exact h.elim

theorem valuesOf_any (g : Nat) (sv : Value) (zs : List (ByteArray × ByteArray)) (hl : zs.length ≤ 1000000) (w : World) (hg : g < w.heap.size) (kg : w.cell? ⟨g, 1, none⟩ = some sv) (hR : RwsS (fun p : ByteArray × ByteArray => p.1) (fun p => p.2) w.heap.size w sv zs) :
    Calls Tryz.prog 84 #[.pointer (some ⟨g, 0, none⟩)] w fun e W' => ∃ v, e = .returned v ∧ W'.ownsRow w.heap.size 9 1 v zs.length (zs.map fun p => .string p.2) ∧ Below w.heap.size w W' :=
  (callsIn_wide (n := 3)).1 (valuesOf_in _ 3 trivial trivial trivial rfl (by omega) g sv zs hl w hg kg hR)
end Go.Proofs.YtcamccoaoiobdaaGreat
/- A region some of whose operations, the last ones, may break what is held: each of them waits for all that leans on it. -/
namespace Go.Proofs.YtcamccoaoiobdaaGreat
open Go

section
variable {P : Program} {ops : Array Oper} {Q : Exit → Act → World → Prop} {md : Region.Mode} {S : World → Prop} {Ls : List Nat}

/-- Whatever order is picked from here on, and S holds behind every operation but those of Ls. -/
def wpAnyS (P : Program) (md : Region.Mode) (ops : Array Oper) (Q : Exit → Act → World → Prop) (S : World → Prop) (Ls : List Nat) : Nat → Array Bool → Act → World → Prop
  | 0, listed, a, w => Region.ready md ops listed = [] ∧ Q .normal a w
  | fuel + 1, listed, a, w =>
    (Region.ready md ops listed = [] → Q .normal a w) ∧
    ∀ i ∈ Region.ready md ops listed, wpOp P ops Q i (fun a' w' => (i ∈ Ls ∨ S w') ∧ wpAnyS P md ops Q S Ls fuel (listed.setIfInBounds i true) a' w') a w

theorem wpAny_of_S : ∀ (fuel : Nat) (listed : Array Bool) (a : Act) (w : World), wpAnyS P md ops Q S Ls fuel listed a w → wpAny P md ops Q fuel listed a w
  | 0, _, _, _, h => h
  | fuel + 1, _, _, _, h => ⟨h.1, fun i hi => wpOp_mono (fun a' w' h' => wpAny_of_S fuel _ a' w' h'.2) (h.2 i hi)⟩

theorem late_waits {listed : Array Bool} {i j : Nat} (hL : Ls.all (fun L => waitsFor md ops L i) = true) (hi : i ∈ Region.ready md ops listed) (hj : j ∈ Region.ready md ops listed) : j ∉ Ls := fun h => last_waits (List.all_eq_true.1 hL j h) hi hj rfl

theorem wpAnyS_first {i : Nat} {oi : Oper} {v : Value} (hi : ops[i]? = some oi) (hsel : ∀ (j : Nat) (o : Oper) cs b, ops[j]? = some o → o.op ≠ .select cs b)
    (hQ : ∀ c a w, Q (.panic c) (a.put oi.dst v) w → Q (.panic c) a w) (hL : Ls.all (fun L => waitsFor md ops L i) = true) (fuel : Nat) :
    ∀ (listed : Array Bool) (a : Act) (w : World), Untouched md ops oi i listed → i ∈ Region.ready md ops listed → YieldsIf P ops S oi v a → S w →
      wpAnyS P md ops Q S Ls fuel (listed.setIfInBounds i true) (a.put oi.dst v) w → wpAnyS P md ops Q S Ls (fuel + 1) listed a w := by
  induction fuel with
  | zero =>
    intro listed a w _ hr hy hS H
    refine ⟨fun h => absurd (h ▸ hr) (by simp), fun j hj => ?_⟩
    rcases Nat.decEq j i with hne | rfl
    · exact absurd (H.1 ▸ ready_mono hj hne) (by simp)
    · exact hy.wpOp hi hS ⟨.inr hS, H⟩
  | succ fuel ih =>
    intro listed a w hun hr hy hS H
    refine ⟨fun h => absurd (h ▸ hr) (by simp), fun j hj => ?_⟩
    rcases Nat.decEq j i with hne | rfl
    · obtain ⟨hju, oj, hoj, _⟩ := mem_ready.1 hj
      have hstep := wpOp_putIf hoj (hun j oj hoj hne hju (ready_free hr hj hoj)) (fun cs b => hsel i oi cs b hi) (fun cs b => hsel j oj cs b hoj) hQ hy (H.2 j (ready_mono hj hne))
      refine wpOp_mono (fun a' w' ⟨hy', hS', hW⟩ => ?_) hstep
      have hSw := hS'.resolve_left (late_waits hL hr hj)
      exact ⟨.inr hSw, ih _ a' w' (hun.more hju) (ready_mono hr (Ne.symm hne)) hy' hSw (by rw [Array.setIfInBounds_comm _ _ hne]; exact hW)⟩
    · exact hy.wpOp hi hS ⟨.inr hS, H⟩

/-- Take number i first. -/
theorem wpAnyS_take {i : Nat} {oi : Oper} {v : Value} {fuel : Nat} {listed : Array Bool} {a : Act} {w : World} (hi : ops[i]? = some oi)
    (hs : Region.noSelect ops = true) (hf : Region.free md ops listed i = true) (hr : (Region.ready md ops listed).contains i = true) (hL : Ls.all (fun L => waitsFor md ops L i) = true)
    (hQ : ∀ c a w, Q (.panic c) (a.put oi.dst v) w → Q (.panic c) a w) (hy : YieldsIf P ops S oi v a) (hS : S w)
    (h : wpAnyS P md ops Q S Ls fuel (listed.setIfInBounds i true) (a.put oi.dst v) w) : wpAnyS P md ops Q S Ls (fuel + 1) listed a w :=
  wpAnyS_first hi (Region.noSelect_spec hs) hQ hL fuel listed a w (Region.free_spec hi hf) (by simpa using hr) hy hS h

/-- Just one may come up. -/
theorem wpAnyS_one {i : Nat} {o : Oper} {fuel : Nat} {listed : Array Bool} {a : Act} {w : World} (hr : Region.ready md ops listed = [i]) (ho : ops[i]? = some o)
    (h : ∀ K' : Act → World → Prop, Shut (∀ a w, S w → (S w → wpAnyS P md ops Q S Ls fuel (listed.setIfInBounds i true) a w) → K' a w) → if Region.wanted o (yielded ops a.tmps) = true then Oper.wp P o a w K' Q else K' (a.put o.dst undef) w) :
    wpAnyS P md ops Q S Ls (fuel + 1) listed a w := by
  refine ⟨fun h0 => (by rw [hr] at h0; cases h0), fun j hj => ?_⟩
  rw [hr] at hj
  obtain rfl : j = i := by simpa using hj
  exact wpOp_step ho (fun K' hK => h K' (fun a w hS hW => hK a w ⟨.inr hS, hW hS⟩))

/-- Just one may come up, and it is one of the last. -/
theorem wpAnyS_late {i : Nat} {o : Oper} {fuel : Nat} {listed : Array Bool} {a : Act} {w : World} (hr : Region.ready md ops listed = [i]) (ho : ops[i]? = some o) (hl : Ls.contains i = true)
    (h : ∀ K' : Act → World → Prop, Shut (∀ a w, wpAnyS P md ops Q S Ls fuel (listed.setIfInBounds i true) a w → K' a w) → if Region.wanted o (yielded ops a.tmps) = true then Oper.wp P o a w K' Q else K' (a.put o.dst undef) w) :
    wpAnyS P md ops Q S Ls (fuel + 1) listed a w := by
  refine ⟨fun h0 => (by rw [hr] at h0; cases h0), fun j hj => ?_⟩
  rw [hr] at hj
  obtain rfl : j = i := by simpa using hj
  exact wpOp_step ho (fun K' hK => h K' (fun a w hW => hK a w ⟨.inl (by simpa using hl), hW⟩))

theorem wpAnyS_done {fuel : Nat} {listed : Array Bool} {a : Act} {w : World} (hr : Region.ready md ops listed = []) (hq : Q .normal a w) : wpAnyS P md ops Q S Ls fuel listed a w := by
  cases fuel with
  | zero => exact ⟨hr, hq⟩
  | succ n => exact ⟨fun _ => hq, by rw [hr]; intro i hi; cases hi⟩

theorem wp_region_S {id : Nat} {a : Act} {w : World} (S : World → Prop) (Ls : List Nat) (hm : P.follows .mixedOrders = true) (hS : S w.drew)
    (h : S w.drew → wpAnyS P .any ops Q S Ls ops.size (Array.replicate ops.size false) a w.drew) : (Code.region id ops true).wp P Q a w :=
  wp_region_any hm (wpAny_of_S _ _ _ _ (h hS))
end
end Go.Proofs.YtcamccoaoiobdaaGreat
