import Derived.Test.YtddabafaejahbaaGreatDoorJIBg
import Derived.Test.YtddabafaejahbaaGreatDoorParts
import Derived.Test.YtddabafaejahbaaGreatDoorJRdN
import Derived.Test.YtddabafaejahbaaGreatDoorJRv3
import Derived.Test.YtddabafaejahbaaGreatDoorJBytesRow
import Derived.Test.YtddabafaejahbaaGreatDoorJMath
import Derived.Test.YtddabafaejahbaaGreatDoorJTxt6A
import Derived.Test.YtddabafaejahbaaGreatDoorRows
import Derived.ProofKit
import Derived.LaidMore
import Derived.OpenShut
import Derived.Below
import Derived.Lib.LaidTab
import Derived.MakeChecks
/- Cutting data by the program's forms, step by step: mathematics. -/
namespace Go.Proofs.YtddabafaejahbaaGreatDoor
open Go.RowKit

def cutCode (t : Int) (d : ByteArray) : Int :=
  if t < 0 ∨ 65535 < t then 6 else if 65535 < d.size then 7 else if (Dt.spans (Dt.implP t) 0 d).isSome then 0 else 7
def cutS (t : Int) (d : ByteArray) : Option (List (Nat × Nat)) := if t < 0 ∨ 65535 < t then none else if 65535 < d.size then none else Dt.spans (Dt.implP t) 0 d

def spanCells (sp : List (Nat × Nat)) : List Value := sp.flatMap fun s => [.int .i64 (s.1 : Int), .int .i64 (s.2 : Int)]
theorem spanCells_append (a b : List (Nat × Nat)) : spanCells (a ++ b) = spanCells a ++ spanCells b := by simp [spanCells]

/-- Where the cutting stands. -/
def CAt (fs : List Dt.Pc) (d : ByteArray) (sp : List (Nat × Nat)) (r : List Dt.Pc) (a : Nat) : Prop :=
  Dt.spans fs 0 d = (Dt.spans r a (d.extract a d.size)).map (fun t => sp ++ t)

theorem cat_start (fs : List Dt.Pc) (d : ByteArray) : CAt fs d [] fs 0 := by simp [CAt]
theorem cat_end {fs : List Dt.Pc} {d : ByteArray} {sp : List (Nat × Nat)} {a : Nat} (h : CAt fs d sp [] a) (h0 : d.size ≤ a) : Dt.spans fs 0 d = some sp := by
  rw [h, Dt.spans, if_pos (by simp; omega)]; simp
theorem cat_left {fs : List Dt.Pc} {d : ByteArray} {sp : List (Nat × Nat)} {a : Nat} (h : CAt fs d sp [] a) (h0 : a < d.size) : Dt.spans fs 0 d = none := by
  rw [h, Dt.spans, if_neg (by simp; omega)]; rfl
theorem cat_none {fs r : List Dt.Pc} {p : Dt.Pc} {d : ByteArray} {sp : List (Nat × Nat)} {a : Nat} (h : CAt fs d sp (p :: r) a) (h0 : Dt.sz p (d.extract a d.size) = none) : Dt.spans fs 0 d = none := by
  rw [h, Dt.spans, h0]; rfl
theorem cat_step {fs r : List Dt.Pc} {p : Dt.Pc} {d : ByteArray} {sp : List (Nat × Nat)} {a n : Nat} (h : CAt fs d sp (p :: r) a) (ha : a ≤ d.size) (h0 : Dt.sz p (d.extract a d.size) = some n) :
    CAt fs d (sp ++ if p.isN then [(a, a + n)] else []) r (a + n) ∧ a + n ≤ d.size := by
  have hn := Dt.sz_le h0
  have hz : (d.extract a d.size).size = d.size - a := by simp
  refine ⟨?_, by omega⟩
  rw [CAt, h, Dt.spans, h0, Option.map_map, Dt.ext_ext (by omega) (Nat.le_refl _)]
  congr 1
  funext t
  cases p.isN <;> simp

theorem code_type {t : Int} {d : ByteArray} (h : t < 0 ∨ 65535 < t) : cutCode t d = 6 ∧ cutS t d = none := by
  rw [cutCode, cutS, if_pos h, if_pos h]; exact ⟨rfl, rfl⟩
theorem code_long {t : Int} {d : ByteArray} (h : ¬ (t < 0 ∨ 65535 < t)) (h1 : 65535 < d.size) : cutCode t d = 7 ∧ cutS t d = none := by
  rw [cutCode, cutS, if_neg h, if_neg h, if_pos h1, if_pos h1]; exact ⟨rfl, rfl⟩
theorem code_none {t : Int} {d : ByteArray} (h : ¬ (t < 0 ∨ 65535 < t)) (h1 : ¬ 65535 < d.size) (h2 : Dt.spans (Dt.implP t) 0 d = none) : cutCode t d = 7 ∧ cutS t d = none := by
  rw [cutCode, cutS, if_neg h, if_neg h, if_neg h1, if_neg h1, h2]; exact ⟨rfl, rfl⟩
theorem code_some {t : Int} {d : ByteArray} {sp : List (Nat × Nat)} (h : ¬ (t < 0 ∨ 65535 < t)) (h1 : ¬ 65535 < d.size) (h2 : Dt.spans (Dt.implP t) 0 d = some sp) : cutCode t d = 0 ∧ cutS t d = some sp := by
  rw [cutCode, cutS, if_neg h, if_neg h, if_neg h1, if_neg h1, h2]; exact ⟨rfl, rfl⟩
theorem implP_len (t : Int) : (Dt.implP t).length ≤ 5 := by
  unfold Dt.implP
  repeat' split
  all_goals simp
end Go.Proofs.YtddabafaejahbaaGreatDoor
/- spec.CheckData by its contract. -/
namespace Go.Proofs.YtddabafaejahbaaGreatDoor
open Go.RowKit

theorem okForm_of {f : ByteArray} (h1 : f.size ≤ 100) (h2 : f.data.toList.all (fun c => c == 110 || c == 98 || c == 116 || c == 115 || c == 99 || c == 109 || c == 42) = true) : okForm f := by
  refine ⟨h1, ?_⟩
  intro k hk
  have := List.all_eq_true.1 h2 f[k] (List.mem_of_getElem? (Nm.get_data hk))
  simpa [or_assoc] using this

theorem form_ok (t : Int) : okForm (Dt.formS t) := by
  unfold Dt.formS
  repeat' split
  all_goals exact okForm_of (by decide) (by decide)

theorem parts_some {t : Int} {d : ByteArray} : (Dt.parts (Dt.specP t) d).isSome = (Dt.spans (Dt.implP t) 0 d).isSome := by
  rw [← Dt.forms_agree, Dt.spans_of_parts]; simp

set_option maxRecDepth 100000 in
set_option maxHeartbeats 400000 in
theorem specCheckData_any (t : Int) (d : ByteArray) (w : World) :
    Calls Tryz.prog 39 #[.int .i64 t, .string d] w fun e w' => e = .returned (.int .i64 (cutCode t d)) ∧ Below w.heap.size w w' := by
  by_cases ht : t < 0 ∨ 65535 < t
  · have HC := Nm.hide (code_type (d := d) ht)
    by_cases ht0 : t < 0
    · clear ht
      go_enter Tryz.func39, Tryz.ntmps39
      go_wp2
      go_ret
      rw [HC.out.1]
      exact ⟨rfl, Below.refl _ _⟩
    · have ht1 : 65535 < t := by omega
      have ht2 : 0 ≤ t := by omega
      clear ht
      go_enter Tryz.func39, Tryz.ntmps39
      go_wp2
      go_ret
      rw [HC.out.1]
      exact ⟨rfl, Below.refl _ _⟩
  have ht0 : 0 ≤ t := by omega
  have ht1 : t ≤ 65535 := by omega
  by_cases hl : 65535 < d.size
  · have HC := Nm.hide (code_long ht hl)
    have hl' : (65535 : Int) < (d.size : Int) := by omega
    clear ht
    go_enter Tryz.func39, Tryz.ntmps39
    go_wp2
    go_ret
    rw [HC.out.1]
    exact ⟨rfl, Below.refl _ _⟩
  have hl' : (d.size : Int) ≤ 65535 := by omega
  have hcall := fun w => l02Parts_any (Dt.formS t) d w (form_ok t) (by omega)
  have hform := l02Form_any t
  have hps := parts_some (t := t) (d := d)
  rw [Dt.specP] at hps
  rw [hps] at hcall
  generalize Dt.formS t = f at *
  cases hq : Dt.spans (Dt.implP t) 0 d with
  | none =>
    have HC := Nm.hide (code_none ht hl hq)
    rw [hq] at hcall
    clear ht hl hq hps
    go_enter Tryz.func39, Tryz.ntmps39
    go_wp2_with (first | (go_at_call 81; refine (hform _).mono ?_; rintro e w1 ⟨rfl, hw⟩; obtain rfl : w = w1 := hw.symm; clear hw) | (go_at_call 80; refine (hcall _).mono ?_; rintro e w2 ⟨v, rfl, _, hbel⟩))
    go_ret
    rw [HC.out.1]
    exact ⟨rfl, hbel⟩
  | some sp =>
    have HC := Nm.hide (code_some ht hl hq)
    rw [hq] at hcall
    clear ht hl hq hps
    go_enter Tryz.func39, Tryz.ntmps39
    go_wp2_with (first | (go_at_call 81; refine (hform _).mono ?_; rintro e w1 ⟨rfl, hw⟩; obtain rfl : w = w1 := hw.symm; clear hw) | (go_at_call 80; refine (hcall _).mono ?_; rintro e w2 ⟨v, rfl, _, hbel⟩))
    go_ret
    rw [HC.out.1]
    exact ⟨rfl, hbel⟩
end Go.Proofs.YtddabafaejahbaaGreatDoor
/- Plain form as mathematics. -/
namespace Go.Proofs.YtddabafaejahbaaGreatDoor
open Go.RowKit
set_option linter.unusedVariables false

/-- The digits of plain form. -/
def dgs (ws : List Wrd) : ByteArray := ws.tail.foldl (fun a x => a ++ x.1) ⟨#[]⟩
theorem dgs_step {ws : List Wrd} {i : Nat} {x : Wrd} (h : ws[i]? = some x) (hi : 0 < i) : dgs (ws.take (i + 1)) = dgs (ws.take i) ++ x.1 := by
  have hl := List.getElem?_eq_some_iff.1 h
  rw [List.take_succ_eq_append_getElem hl.1, hl.2, dgs, dgs]
  have hne : ws.take i ≠ [] := by
    intro e
    have h1 := congrArg List.length e
    simp only [List.length_take, List.length_nil] at h1
    have h2 := hl.1
    omega
  obtain ⟨y, r, e⟩ := List.exists_cons_of_ne_nil hne
  rw [e]
  simp
theorem dgs_one (ws : List Wrd) : dgs (ws.take 1) = ⟨#[]⟩ := by
  cases ws with
  | nil => rfl
  | cons x ws => rfl
/-- Bytes of digits of base 16. -/
def hxL : List UInt8 → Option (List UInt8)
  | [] => some []
  | [_] => none
  | a :: b :: r => if hexV a < 0 ∨ hexV b < 0 then none else (hxL r).map (fun l => UInt8.ofNat (16 * hexV a + hexV b).toNat :: l)
def plainT (t : Int) (n : Nat) (d : ByteArray) : ByteArray × Int :=
  if d.size ≠ 2 * n then (⟨#[]⟩, 15) else match hxL d.data.toList with
    | none => (⟨#[]⟩, 15)
    | some l => if cutCode t ⟨l.toArray⟩ = 0 then (⟨l.toArray⟩, 0) else (⟨#[]⟩, 7)
def plainS (t : Int) (ws : List Wrd) : ByteArray × Int :=
  if ws.any (·.2) = true then (⟨#[]⟩, 15)
  else match ws with
    | [] => (⟨#[]⟩, 15)
    | x :: _ => match numO x.1 10 with
      | none => (⟨#[]⟩, 15)
      | some n => plainT t n (dgs ws)
theorem plain_q {t : Int} {ws : List Wrd} {x : Wrd} (h : x ∈ ws) (hb : x.2 = true) : plainS t ws = (⟨#[]⟩, 15) := by
  unfold plainS
  rw [if_pos (List.any_eq_true.2 ⟨x, h, hb⟩)]
theorem plain_nil (t : Int) : plainS t [] = (⟨#[]⟩, 15) := rfl
theorem plain_num {t : Int} {x : Wrd} {ws : List Wrd} (h : ∀ y ∈ x :: ws, y.2 = false) (hn : numO x.1 10 = none) : plainS t (x :: ws) = (⟨#[]⟩, 15) := by
  have hq : (x :: ws).any (·.2) = false := by
    rw [List.any_eq_false]
    intro y hy
    rw [h y hy]
    decide
  unfold plainS
  rw [if_neg (by rw [hq]; decide)]
  simp only [hn]
theorem plain_some {t : Int} {x : Wrd} {ws : List Wrd} {n : Nat} (h : ∀ y ∈ x :: ws, y.2 = false) (hn : numO x.1 10 = some n) : plainS t (x :: ws) = plainT t n (dgs (x :: ws)) := by
  have hq : (x :: ws).any (·.2) = false := by
    rw [List.any_eq_false]
    intro y hy
    rw [h y hy]
    decide
  unfold plainS
  rw [if_neg (by rw [hq]; decide)]
  simp only [hn]
end Go.Proofs.YtddabafaejahbaaGreatDoor
/- Bytes of digits of base 16, step by step; sums of sizes of words. -/
namespace Go.Proofs.YtddabafaejahbaaGreatDoor
open Go.RowKit
set_option linter.unusedVariables false

/-- Where the reading of digits stands: k bytes are read. -/
def HX (D : List UInt8) (k : Nat) (l : List UInt8) : Prop := hxL D = (hxL (D.drop (2 * k))).map (fun r => l ++ r)
theorem hx_start (D : List UInt8) : HX D 0 [] := by simp [HX]
theorem hx_end {D l : List UInt8} {k : Nat} (h : HX D k l) (hk : D.length ≤ 2 * k) : hxL D = some l := by
  rw [HX, List.drop_eq_nil_of_le hk] at h
  rw [h]
  simp [hxL]
theorem hx_two {s : ByteArray} {k : Nat} (h : 2 * k + 1 < s.size) : s.data.toList.drop (2 * k) = s[2 * k] :: s[2 * k + 1] :: s.data.toList.drop (2 * (k + 1)) := by
  rw [List.drop_eq_getElem_cons (by simp; omega), List.drop_eq_getElem_cons (by simp; omega)]
  rfl
theorem hx_bad {s : ByteArray} {k : Nat} {l : List UInt8} (h : HX s.data.toList k l) (hk : 2 * k + 1 < s.size) (hn : hexV s[2 * k] < 0 ∨ hexV s[2 * k + 1] < 0) : hxL s.data.toList = none := by
  rw [HX, hx_two hk, hxL, if_pos hn] at h
  exact h
theorem hx_step {s : ByteArray} {k : Nat} {l : List UInt8} (h : HX s.data.toList k l) (hk : 2 * k + 1 < s.size) (hn : ¬ (hexV s[2 * k] < 0 ∨ hexV s[2 * k + 1] < 0)) : HX s.data.toList (k + 1) (l ++ [UInt8.ofNat (16 * hexV s[2 * k] + hexV s[2 * k + 1]).toNat]) := by
  rw [HX, hx_two hk, hxL, if_neg hn] at h
  rw [HX, h, Option.map_map]
  congr 1
  funext r
  simp
theorem hx_len {D l : List UInt8} (h : hxL D = some l) : D.length = 2 * l.length := by
  match D, h with
  | [], h => simp [hxL] at h; subst h; rfl
  | [_], h => simp [hxL] at h
  | a :: b :: r, h =>
    rw [hxL] at h
    split at h
    · cases h
    · cases hr : hxL r with
      | none => rw [hr] at h; cases h
      | some t =>
        rw [hr] at h
        have e : (UInt8.ofNat (16 * hexV a + hexV b).toNat :: t) = l := by simpa using h
        have := hx_len hr
        rw [← e]
        simp
        omega

/-- The sizes of words, one with another. -/
def wsz (ws : List Wrd) : Nat := (ws.map (fun x => x.1.size)).sum
theorem wsz_app (a b : List Wrd) : wsz (a ++ b) = wsz a + wsz b := by simp [wsz]
theorem wsz_cons (x : Wrd) (b : List Wrd) : wsz (x :: b) = x.1.size + wsz b := by simp [wsz]
theorem wsz_take (ws : List Wrd) (j : Nat) : wsz (ws.take j) ≤ wsz ws := by
  have h := wsz_app (ws.take j) (ws.drop j)
  rw [List.take_append_drop] at h
  omega
theorem wsz_mem {ws : List Wrd} {x : Wrd} (h : x ∈ ws) : x.1.size ≤ wsz ws := by
  induction ws with
  | nil => cases h
  | cons y ws ih =>
    rw [wsz_cons]
    rcases List.mem_cons.1 h with rfl | h
    · omega
    · have := ih h; omega
theorem fold_size (l : List Wrd) (a : ByteArray) : (l.foldl (fun a x => a ++ x.1) a).size = a.size + wsz l := by
  induction l generalizing a with
  | nil => simp [wsz]
  | cons x l ih => rw [List.foldl_cons, ih, wsz_cons, ByteArray.size_append]; omega
theorem dgs_size (ws : List Wrd) : (dgs ws).size ≤ wsz ws := by
  cases ws with
  | nil => exact Nat.zero_le _
  | cons x ws =>
    rw [dgs, List.tail_cons, fold_size, wsz_cons, show (⟨#[]⟩ : ByteArray).size = 0 from rfl]
    omega
theorem dgs_take (ws : List Wrd) (j : Nat) : (dgs (ws.take j)).size ≤ wsz ws := Nat.le_trans (dgs_size _) (wsz_take ws j)
theorem dgs_step_le {ws : List Wrd} {i : Nat} {x : Wrd} (h : ws[i]? = some x) : (dgs (ws.take i)).size + x.1.size ≤ wsz ws := by
  have hl := List.getElem?_eq_some_iff.1 h
  have h1 := dgs_size (ws.take i)
  have h2 := wsz_take ws (i + 1)
  rw [List.take_succ_eq_append_getElem hl.1, hl.2, wsz_app, wsz_cons] at h2
  omega
end Go.Proofs.YtddabafaejahbaaGreatDoor
/- What a listed variable gives: its block, cell for cell. -/
namespace Go.Proofs.YtddabafaejahbaaGreatDoor
open Go.RowKit Go.ChangeShapes

theorem laid_mem {P : Program} {w : World} : ∀ {l : List (String × DataW Unit)} {ps : List MemPlace}, DataW.LaidVars P w l ps → ∀ {n : String} {d : DataW Unit}, (n, d) ∈ l →
    ∃ g t cs fuel p, P.globalNamed n = some g ∧ (P.globals[g]?).map (·.type) = some t ∧ w.var? P n = some cs ∧ DataW.trod (fun _ => ()) P w 0 (fun _ => true) false fuel t cs.toList = some (d, p) := by
  intro l
  induction l with
  | nil => intro ps _ n d h; cases h
  | cons x r ih =>
    intro ps h n d hm
    obtain ⟨n0, d0⟩ := x
    obtain ⟨g, t, cs, fuel, p, q, h1, h2, h3, h4, hr, _⟩ := h
    rcases List.mem_cons.1 hm with e | e
    · cases e
      exact ⟨g, t, cs, fuel, p, h1, h2, h3, h4⟩
    · exact ih hr e

theorem var_block {P : Program} {w : World} {n : String} {g : Nat} {cs : Array Value} (hg : P.globalNamed n = some g) (h : w.var? P n = some cs) : ∃ t fr, w.heap[g]? = some (.cells cs t fr) := by
  simp only [World.var?, hg, Option.bind_some] at h
  split at h
  · rename_i c t fr hh
    cases h
    exact ⟨t, fr, hh⟩
  · cases h

/-- A listed table of integers. -/
theorem tab_of_laid {P : Program} {W : World} {l : List (String × DataW Unit)} (h : laidMet P l W) {name : String} {k : IntKind} {zs : List Int} {g : Nat} {t e : TypeId} {n : Nat}
    (hm : (name, Lib.tabData k zs) ∈ l) (hg : P.globalNamed name = some g) (hty : (P.globals[g]?).map (·.type) = some t) (ht : P.underlying t = some (.array n e)) (he : P.underlying e = some (.int k)) (hce : P.cellsOf e = 1) (hct : P.cellsOf t = n) :
    Lib.TabIs P W name k zs := by
  obtain ⟨ps, hv, _⟩ := h
  obtain ⟨g', t', cs, fuel, p, hg', ht', hvar, hd⟩ := laid_mem hv hm
  obtain rfl := Option.some.inj (hg.symm.trans hg')
  obtain rfl := Option.some.inj (hty.symm.trans ht')
  unfold Lib.TabIs
  rw [hvar, ← Lib.cells_of_tab ht he hce hct hd]

/-- A table of pairs of a text and a number. -/
def pairData {H : Type} (l : List (List UInt8 × Int)) : DataW H := .agg (l.map fun x => .agg [.lit (.string x.1), .lit (.int .i64 x.2)])
def pairCells (l : List (List UInt8 × Int)) : List Value := l.flatMap fun x => [.string ⟨x.1.toArray⟩, .int .i64 x.2]

theorem pairCells_at : ∀ (l : List (List UInt8 × Int)) (i : Nat) (x : List UInt8 × Int), l[i]? = some x → (pairCells l)[2 * i]? = some (.string ⟨x.1.toArray⟩) ∧ (pairCells l)[2 * i + 1]? = some (.int .i64 x.2) := by
  intro l
  induction l with
  | nil => intro i x h; simp at h
  | cons y r ih =>
    intro i x h
    cases i with
    | zero => simp at h; subst h; exact ⟨rfl, rfl⟩
    | succ i =>
      have e : pairCells (y :: r) = .string ⟨y.1.toArray⟩ :: .int .i64 y.2 :: pairCells r := rfl
      have := ih i x (by simpa using h)
      rw [e, show 2 * (i + 1) = 2 * i + 1 + 1 by omega, show 2 * i + 1 + 1 + 1 = (2 * i + 1) + 1 + 1 by omega]
      simpa using this
theorem pairCells_length (l : List (List UInt8 × Int)) : (pairCells l).length = 2 * l.length := by
  induction l with
  | nil => rfl
  | cons y r ih =>
    have e : pairCells (y :: r) = .string ⟨y.1.toArray⟩ :: .int .i64 y.2 :: pairCells r := rfl
    rw [e]; simp [ih]; omega

theorem cells_of_pairs {H : Type} {enc : TypeId × Value → H} {P : Program} {w : World} {base : Nat} {sp : Nat → Bool} {held : Bool} {fuel : Nat} {t e ts ti : TypeId} {f0 f1 : Field} {n : Nat} {cs : List Value} {zs : List (List UInt8 × Int)} {p : List MemPlace}
    (ht : P.underlying t = some (.array n e)) (he : P.underlying e = some (.struct #[f0, f1])) (h0 : f0.type = ts) (h1 : f1.type = ti) (o0 : f0.offset = 0) (o1 : f1.offset = 1)
    (hs : P.underlying ts = some .string) (hi : P.underlying ti = some (.int .i64)) (hcs : P.cellsOf ts = 1) (hci : P.cellsOf ti = 1) (hce : P.cellsOf e = 2) (hct : P.cellsOf t = 2 * n)
    (h : DataW.trod enc P w base sp held fuel t cs = some (pairData zs, p)) : cs = pairCells zs := by
  obtain ⟨xs, m, _, hx, hl, hxl, hel⟩ := DataW.trod_array ht h
  simp only [pairData, Prod.mk.injEq, DataW.agg.injEq] at hx
  have hx1 := hx.1
  have hzl : zs.length = n := by
    have := congrArg List.length hx1
    simp at this
    omega
  rw [hct] at hl
  apply List.ext_getElem?
  intro i
  by_cases hin : i < 2 * n
  · obtain ⟨k, hk⟩ : ∃ k, i = 2 * k ∨ i = 2 * k + 1 := ⟨i / 2, by omega⟩
    have hkn : k < n := by omega
    obtain ⟨y, hy⟩ : ∃ y, xs[k]? = some y := ⟨_, List.getElem?_eq_getElem (by omega)⟩
    obtain ⟨z, hz⟩ : ∃ z, zs[k]? = some z := ⟨_, List.getElem?_eq_getElem (by omega)⟩
    have hyz : y.1 = .agg [.lit (.string z.1), .lit (.int .i64 z.2)] := by
      have h1 := congrArg (fun l => l[k]?) hx1
      simp only [List.getElem?_map, hy, hz, Option.map_some, Option.some.injEq] at h1
      exact h1.symm
    have hek := hel k hkn
    rw [hy, hce] at hek
    obtain ⟨y0, y1, m2, hagg, _, d0, d1⟩ := trod_struct2 he hek
    rw [h0, o0, hcs] at d0
    rw [h1, o1, hci] at d1
    obtain ⟨s, c0, e0, _⟩ := DataW.trod_string hs d0
    obtain ⟨q, c1, e1, _⟩ := DataW.trod_int hi d1
    have hagg1 : y.1 = .agg [y0.1, y1.1] := by rw [hagg]
    rw [hyz, e0, e1] at hagg1
    simp only [DataW.agg.injEq, List.cons.injEq, DataW.lit.injEq, Lit.string.injEq, Lit.int.injEq, true_and, and_true] at hagg1
    have g0 : cs[2 * k]? = some (.string s) := by
      have := congrArg (fun l => l[0]?) c0
      simpa [List.getElem?_take, List.getElem?_drop, Nat.mul_comm] using this
    have g1 : cs[2 * k + 1]? = some (.int .i64 q) := by
      have := congrArg (fun l => l[0]?) c1
      simpa [List.getElem?_take, List.getElem?_drop, Nat.mul_comm] using this
    have hp := pairCells_at zs k z hz
    have es : (⟨z.1.toArray⟩ : ByteArray) = s := by rw [hagg1.1]
    rcases hk with rfl | rfl
    · rw [g0, hp.1, es]
    · rw [g1, hp.2, hagg1.2]
  · rw [List.getElem?_eq_none (by omega), List.getElem?_eq_none (by rw [pairCells_length]; omega)]

/-- A listed table of pairs: its block. -/
theorem pairs_of_laid {P : Program} {W : World} {l : List (String × DataW Unit)} (h : laidMet P l W) {name : String} {zs : List (List UInt8 × Int)} {g : Nat} {t e ts ti : TypeId} {f0 f1 : Field} {n : Nat}
    (hm : (name, pairData zs) ∈ l) (hg : P.globalNamed name = some g) (hty : (P.globals[g]?).map (·.type) = some t) (ht : P.underlying t = some (.array n e)) (he : P.underlying e = some (.struct #[f0, f1])) (h0 : f0.type = ts) (h1 : f1.type = ti) (o0 : f0.offset = 0) (o1 : f1.offset = 1)
    (hs : P.underlying ts = some .string) (hi : P.underlying ti = some (.int .i64)) (hcs : P.cellsOf ts = 1) (hci : P.cellsOf ti = 1) (hce : P.cellsOf e = 2) (hct : P.cellsOf t = 2 * n) :
    ∃ t fr, W.heap[g]? = some (.cells (pairCells zs).toArray t fr) := by
  obtain ⟨ps, hv, _⟩ := h
  obtain ⟨g', t', cs, fuel, p, hg', ht', hvar, hd⟩ := laid_mem hv hm
  obtain rfl := Option.some.inj (hg.symm.trans hg')
  obtain rfl := Option.some.inj (hty.symm.trans ht')
  obtain ⟨u, fr, hb⟩ := var_block hg hvar
  have hc := cells_of_pairs ht he h0 h1 o0 o1 hs hi hcs hci hce hct hd
  refine ⟨u, fr, ?_⟩
  rw [hb, ← hc]
end Go.Proofs.YtddabafaejahbaaGreatDoor
