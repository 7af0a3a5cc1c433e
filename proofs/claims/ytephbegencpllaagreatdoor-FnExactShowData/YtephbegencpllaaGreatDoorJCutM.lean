import Derived.Test.YtephbegencpllaaGreatDoorJTxt5
import Derived.Test.YtephbegencpllaaGreatDoorJTxtM
import Derived.Lib.Join
/- Cutting data by the program's forms, step by step: mathematics. -/
namespace Go.Proofs.YtephbegencpllaaGreatDoor
open Go.RowKit

def cutCode (t : Int) (d : ByteArray) : Int :=
  if t < 0 ∨ 65535 < t then 6 else if 65535 < d.size then 7 else if (Dt.spans (Dt.implP t) 0 d).isSome then 0 else 7
def cutS (t : Int) (d : ByteArray) : Option (List (Nat × Nat)) := if t < 0 ∨ 65535 < t then none else if 65535 < d.size then none else Dt.spans (Dt.implP t) 0 d

def spanCells (sp : List (Nat × Nat)) : List Value := sp.flatMap fun s => [.int .i64 (s.1 : Int), .int .i64 (s.2 : Int)]
theorem spanCells_append (a b : List (Nat × Nat)) : spanCells (a ++ b) = spanCells a ++ spanCells b := by simp [spanCells]

/-- Where the cutting stands. -/
def CAt (fs : List Dt.Pc) (d : ByteArray) (sp : List (Nat × Nat)) (r : List Dt.Pc) (a : Nat) : Prop :=
  Dt.spans fs 0 d = (Dt.spans r a (d.extract a d.size)).map (fun t => sp ++ t)

theorem cat_start (fs : List Dt.Pc) (d : ByteArray) : CAt fs d [] fs 0 := by simp [CAt]
theorem cat_end {fs : List Dt.Pc} {d : ByteArray} {sp : List (Nat × Nat)} {a : Nat} (h : CAt fs d sp [] a) (h0 : d.size ≤ a) : Dt.spans fs 0 d = some sp := by
  rw [h, Dt.spans, if_pos (by simp; omega)]; simp
theorem cat_left {fs : List Dt.Pc} {d : ByteArray} {sp : List (Nat × Nat)} {a : Nat} (h : CAt fs d sp [] a) (h0 : a < d.size) : Dt.spans fs 0 d = none := by
  rw [h, Dt.spans, if_neg (by simp; omega)]; rfl
theorem cat_none {fs r : List Dt.Pc} {p : Dt.Pc} {d : ByteArray} {sp : List (Nat × Nat)} {a : Nat} (h : CAt fs d sp (p :: r) a) (h0 : Dt.sz p (d.extract a d.size) = none) : Dt.spans fs 0 d = none := by
  rw [h, Dt.spans, h0]; rfl
theorem cat_step {fs r : List Dt.Pc} {p : Dt.Pc} {d : ByteArray} {sp : List (Nat × Nat)} {a n : Nat} (h : CAt fs d sp (p :: r) a) (ha : a ≤ d.size) (h0 : Dt.sz p (d.extract a d.size) = some n) :
    CAt fs d (sp ++ if p.isN then [(a, a + n)] else []) r (a + n) ∧ a + n ≤ d.size := by
  have hn := Dt.sz_le h0
  have hz : (d.extract a d.size).size = d.size - a := by simp
  refine ⟨?_, by omega⟩
  rw [CAt, h, Dt.spans, h0, Option.map_map, Dt.ext_ext (by omega) (Nat.le_refl _)]
  congr 1
  funext t
  cases p.isN <;> simp

theorem code_type {t : Int} {d : ByteArray} (h : t < 0 ∨ 65535 < t) : cutCode t d = 6 ∧ cutS t d = none := by
  rw [cutCode, cutS, if_pos h, if_pos h]; exact ⟨rfl, rfl⟩
theorem code_long {t : Int} {d : ByteArray} (h : ¬ (t < 0 ∨ 65535 < t)) (h1 : 65535 < d.size) : cutCode t d = 7 ∧ cutS t d = none := by
  rw [cutCode, cutS, if_neg h, if_neg h, if_pos h1, if_pos h1]; exact ⟨rfl, rfl⟩
theorem code_none {t : Int} {d : ByteArray} (h : ¬ (t < 0 ∨ 65535 < t)) (h1 : ¬ 65535 < d.size) (h2 : Dt.spans (Dt.implP t) 0 d = none) : cutCode t d = 7 ∧ cutS t d = none := by
  rw [cutCode, cutS, if_neg h, if_neg h, if_neg h1, if_neg h1, h2]; exact ⟨rfl, rfl⟩
theorem code_some {t : Int} {d : ByteArray} {sp : List (Nat × Nat)} (h : ¬ (t < 0 ∨ 65535 < t)) (h1 : ¬ 65535 < d.size) (h2 : Dt.spans (Dt.implP t) 0 d = some sp) : cutCode t d = 0 ∧ cutS t d = some sp := by
  rw [cutCode, cutS, if_neg h, if_neg h, if_neg h1, if_neg h1, h2]; exact ⟨rfl, rfl⟩
theorem implP_len (t : Int) : (Dt.implP t).length ≤ 5 := by
  unfold Dt.implP
  repeat' split
  all_goals simp
end Go.Proofs.YtephbegencpllaaGreatDoor
/- What ShowV4 answers: mathematics. -/
namespace Go.Proofs.YtephbegencpllaaGreatDoor
open Go.RowKit

def v4Text (s : ByteArray) : List UInt8 := Lib.join (s.data.toList.map fun c => decL c.toNat) [46]
def showV4S (s : ByteArray) : ByteArray × Int := if s.size = 4 then (⟨(v4Text s).toArray⟩, 0) else (⟨#[]⟩, 7)
theorem v4Text_four {s : ByteArray} (h : s.size = 4) : (⟨(v4Text s).toArray⟩ : ByteArray) = decS s[0].toNat ++ ⟨#[46]⟩ ++ decS s[1].toNat ++ ⟨#[46]⟩ ++ decS s[2].toNat ++ ⟨#[46]⟩ ++ decS s[3].toNat := by
  have e : s.data.toList = [s[0], s[1], s[2], s[3]] := by
    refine List.ext_getElem (by simpa using h) ?_
    intro i h1 h2
    have hi : i < 4 := by simpa using h2
    rcases i with _ | _ | _ | _ | i
    · rfl
    · rfl
    · rfl
    · rfl
    · omega
  apply Nm.ba_ext
  rw [v4Text, e]
  simp [Lib.join, decS]
theorem dec_small {n : Nat} (h : n < 256) : (decS n).size ≤ 20 := by
  have := decL_len20 (n := n) (by omega)
  show (decL n).toArray.size ≤ 20
  simpa using this

theorem tail_len : ∀ (r : List ByteArray), (∀ x ∈ r, x.size ≤ 20) → (Lib.joinTail [46] (r.map (·.data.toList))).length ≤ 21 * r.length := by
  intro r
  induction r with
  | nil => intro _; simp [Lib.joinTail]
  | cons x r ih =>
    intro h
    have hx := h x (List.mem_cons_self)
    have ihr := ih (fun y hy => h y (List.mem_cons_of_mem _ hy))
    have hz : x.data.toList.length = x.size := by simp
    simp only [Lib.joinTail, List.map_cons, List.flatten_cons, List.length_append, List.length_cons, List.length_nil] at ihr ⊢
    omega
theorem join_len (ls : List ByteArray) (h : ∀ x ∈ ls, x.size ≤ 20) : (Lib.join (ls.map (·.data.toList)) [46]).length ≤ 21 * ls.length := by
  cases ls with
  | nil => simp [Lib.join_nil]
  | cons x r =>
    have hx := h x (List.mem_cons_self)
    have ihr := tail_len r (fun y hy => h y (List.mem_cons_of_mem _ hy))
    have hz : x.data.toList.length = x.size := by simp
    rw [List.map_cons, Lib.join_cons, List.length_append, List.length_cons]
    omega

def v4Parts (l : List UInt8) : List ByteArray := l.map fun c => decS c.toNat
theorem v4Parts_step {l : List UInt8} {k : Nat} {c : UInt8} (h : l[k]? = some c) : v4Parts (l.take (k + 1)) = v4Parts (l.take k) ++ [decS c.toNat] := by
  rw [Nm.take_step h]; simp [v4Parts]
theorem v4_joined (s : ByteArray) : (⟨(Lib.join ((v4Parts s.data.toList).map (·.data.toList)) [46]).toArray⟩ : ByteArray) = ⟨(v4Text s).toArray⟩ := by
  rw [v4Text, v4Parts, List.map_map]
  congr 2
end Go.Proofs.YtephbegencpllaaGreatDoor
