import Derived.Test.YtihhchebcojplaaJDnM
import Derived.Test.YtihhchebcojplaaJDataM
import Derived.Test.YtihhchebcojplaaJNumM
import Derived.Test.YtihhchebcojplaaJMath
import Derived.Test.YtihhchebcojplaaRows
import Derived.WalkSpells
import Derived.WalkLawsBesides
import Derived.RegionTactic
import Derived.BigRegion
import Derived.BigQuiet
import Derived.Deep.QuietTactic
import Derived.OpenShut
/- A message's records: mathematics. -/
namespace Go.Proofs.Ytihhchebcojplaa

/-- Some bytes of a message. -/
def cutL (l : List UInt8) (p n : Nat) : List UInt8 := (l.drop p).take n

theorem cutL_length {l : List UInt8} {p n : Nat} (h : p + n ≤ l.length) : (cutL l p n).length = n := by simp [cutL]; omega

theorem cutL_add {l : List UInt8} {p n m : Nat} : cutL l p (n + m) = cutL l p n ++ cutL l (p + n) m := by
  simp [cutL, List.take_add]

/-- Data up to a place, by its pieces: none is a name, some n are n bytes. -/
def dtP (l : List UInt8) (fin : Nat) : List (Option Nat) → Nat → List UInt8 → Rs (List UInt8)
  | [], p, acc => if p = fin then .ok acc fin else .bad 7
  | none :: ps, p, acc => match dnF l p p [] none with
    | .inl c => .bad c
    | .inr (s, nx) => if nx ≤ fin then dtP l fin ps nx (acc ++ s) else .bad 7
  | some n :: ps, p, acc => if p + n ≤ fin then dtP l fin ps (p + n) (acc ++ cutL l p n) else .bad 7

theorem dtP_bytes (l : List UInt8) (fin : Nat) : ∀ (n p : Nat) (acc : List UInt8), p ≤ fin → dtP l fin (List.replicate n (some 1)) p acc = dtP l fin [some n] p acc := by
  intro n
  induction n with
  | zero => intro p acc h; simp [dtP, cutL, h]
  | succ n ih =>
    intro p acc h
    rw [List.replicate_succ, dtP]
    by_cases h1 : p + 1 ≤ fin
    · rw [if_pos h1, ih (p + 1) _ h1, dtP, dtP]
      have e : p + 1 + n = p + (n + 1) := by omega
      rw [e, List.append_assoc, ← cutL_add, Nat.add_comm 1 n, dtP, dtP]
    · rw [if_neg h1, dtP, if_neg (by omega)]


def piecesOf (t : Nat) : List (Option Nat) := if t = 6 then [none, none, some 20] else if t = 15 then [some 2, none] else [none]

/-- A record's data. -/
def dataS (l : List UInt8) (t p fin : Nat) : Rs (List UInt8) :=
  if p = fin then .ok [] fin
  else if pointed t then dtP l fin (piecesOf t) p []
  else if cutCode t ⟨(cutL l p (fin - p)).toArray⟩ = 0 then .ok (cutL l p (fin - p)) fin else .bad 7

/-- The number of four bytes at a place. -/
def n32 (l : List UInt8) (i : Nat) : Nat := numL (cutL l i 4)

theorem n32_lt (l : List UInt8) (i : Nat) : n32 l i < 4294967296 := by
  have h := numL_lt (cutL l i 4)
  have h2 : (cutL l i 4).length ≤ 4 := by simp [cutL]; omega
  have h3 : 256 ^ (cutL l i 4).length ≤ 256 ^ 4 := Nat.pow_le_pow_right (by decide) h2
  unfold n32
  omega

/-- A question: its name, type and class. -/
structure Qm where
  name : List UInt8
  ty : Nat
  cl : Nat

/-- A record. -/
structure Rm where
  owner : List UInt8
  ty : Nat
  cl : Nat
  ttl : Nat
  dat : List UInt8

def quS (l : List UInt8) (p : Nat) : Rs Qm :=
  match dnF l p p [] none with
  | .inl c => .bad c
  | .inr (s, nx) => if nx + 4 ≤ l.length then .ok ⟨s, n16 l nx, n16 l (nx + 2)⟩ (nx + 4) else .bad 8

def rrS (l : List UInt8) (p : Nat) : Rs Rm :=
  match dnF l p p [] none with
  | .inl c => .bad c
  | .inr (s, nx) =>
    if nx + 10 ≤ l.length then
      if nx + 10 + n16 l (nx + 8) ≤ l.length then
        match dataS l (n16 l nx) (nx + 10) (nx + 10 + n16 l (nx + 8)) with
        | .inl c => .bad c
        | .inr (d, _) => .ok ⟨s, n16 l nx, n16 l (nx + 2), n32 l (nx + 4), d⟩ (nx + 10 + n16 l (nx + 8))
      else .bad 8
    else .bad 8

/-- So many entries, one behind the other. -/
def manyS {α : Type} (f : Nat → Rs α) : Nat → Nat → List α → Rs (List α)
  | 0, p, acc => .ok acc p
  | n + 1, p, acc => match f p with
    | .inl c => .bad c
    | .inr (x, q) => manyS f n q (acc ++ [x])

/-- What stands in a message's lists. -/
structure Mm where
  qs : List Qm
  an : List Rm
  au : List Rm
  ex : List Rm

/-- A message's entries behind its head. -/
def listsS (l : List UInt8) : Rs Mm :=
  match manyS (quS l) (n16 l 4) 12 [] with
  | .inl c => .bad c
  | .inr (qs, p1) => match manyS (rrS l) (n16 l 6) p1 [] with
    | .inl c => .bad c
    | .inr (an, p2) => match manyS (rrS l) (n16 l 8) p2 [] with
      | .inl c => .bad c
      | .inr (au, p3) => match manyS (rrS l) (n16 l 10) p3 [] with
        | .inl c => .bad c
        | .inr (ex, p4) => if p4 < l.length then .bad 10 else .ok ⟨qs, an, au, ex⟩ p4

/-- A message. -/
def msgS (l : List UInt8) : Rs Mm :=
  if 65535 < l.length then .bad 11
  else if l.length < 12 then .bad 8
  else if 400 < n16 l 4 + n16 l 6 + n16 l 8 + n16 l 10 then .bad 12
  else listsS l
end Go.Proofs.Ytihhchebcojplaa
/- impl.fail, (*reader).take by their contracts. -/
namespace Go.Proofs.Ytihhchebcojplaa
open Go.RowKit
set_option linter.unusedVariables false

/-- What a reader panics with. -/
def fault (c : Int) : List PanicEntry := [{ v := .iface 80 (.agg #[.int .i64 c]), recovered := false }]

set_option maxRecDepth 100000 in
set_option maxHeartbeats 400000 in
theorem fail_any (c : Int) (w : World) :
    Calls Try.prog 33 #[.int .i64 c] w fun e w' => e = .panicked (fault c) ∧ w' = w := by
  go_enter Try.func33, Try.ntmps33
  go_wp2
  simp [bodyPost, fault]

theorem bp_panic {P : Program} {f : Func} {R : Ending → World → Prop} {ch : List PanicEntry} {a : Act} {w : World} (hd : a.defers = []) (h : R (.panicked ch) w) : bodyPost P f R (.panic ch) a w := by
  simp only [bodyPost]
  exact ⟨hd, h⟩

/-- A reader lies in block g: its bytes' slice, its place. -/
def Rd (w : World) (g : Nat) (v : Value) (p : Nat) : Prop := w.heap[g]? = some (.cells #[v, .int .i64 p] 50 (0, 0))

/-- What take tells of a slice. -/
def cutV (a : Option Addr) (cap p size : Nat) : Value := if cap = p then .slice a size 0 else .slice (a.map (fun x => x.add p)) size (cap - p)

theorem grown_drew {w w' : World} {row : Option Nat} (h : w.grownBy w' row) : w.grownBy w'.drew row := ⟨h.os, h.tape, h.output, h.size, h.block⟩

theorem rd_set {w : World} {g p q : Nat} {v : Value} (h : Rd w g v p) : Rd (w.setCell ⟨g, 1, none⟩ (.int .i64 q)) g v q ∧ w.grownBy (w.setCell ⟨g, 1, none⟩ (.int .i64 q)) (some g) := by
  refine ⟨?_, ⟨rfl, rfl, rfl, by simp, fun k _ hk => heap_setCell_other w ⟨g, 1, none⟩ k _ (fun e => hk (by simp [e]))⟩⟩
  unfold Rd
  rw [heap_setCell_same w g 1 _ _ _ h]; rfl

set_option maxRecDepth 100000 in
set_option maxHeartbeats 800000 in
theorem take_any (g : Nat) (a : Option Addr) (n cap p size : Nat) (w : World) (h : Rd w g (.slice a n cap) p) (hp : p ≤ n) (hn : n ≤ cap) (hnn : n ≤ 1048576) (hs : size ≤ 65535) :
    Calls Try.prog 77 #[.pointer (some ⟨g, 0, none⟩), .int .i64 size] w fun e w' =>
      (p + size ≤ n ∧ e = .returned (cutV a cap p size) ∧ Rd w' g (.slice a n cap) (p + size) ∧ w.grownBy w' (some g)) ∨
      (n < p + size ∧ e = .panicked (fault 8) ∧ w.grownBy w' (some g)) := by
  have c0 : w.cell? ⟨g, 0, none⟩ = some (.slice a n cap) := by rw [cell_of_row _ _ _ _ _ _ h]; rfl
  have c1 : w.cell? ⟨g, 1, none⟩ = some (.int .i64 p) := by rw [cell_of_row _ _ _ _ _ _ h]; rfl
  have f0 := frozen_of_row w g 0 _ _ h
  have f1 := frozen_of_row w g 1 _ _ h
  by_cases hlt : n < p + size
  · have hlt' : (n : Int) - (p : Int) < (size : Int) := by omega
    go_enter Try.func77, Try.ntmps77
    go_wp2
    go_region
    go_wp2_with (go_at_call 33; refine (fail_any 8 _).mono ?_; rintro e w1 ⟨rfl, rfl⟩)
    refine bp_panic rfl ?_
    exact .inr ⟨hlt, rfl, grown_drew (World.grownBy.refl _ _)⟩
  · have hlt' : (size : Int) ≤ (n : Int) - (p : Int) := by omega
    have HS := Nm.hide (rd_set (q := p + size) h)
    simp only [Int.natCast_add] at HS
    have HL : Hid (p + size ≤ n) := by exact Nat.le_of_not_lt hlt
    have hcell := fun q => (World.cell?_setCell_other w ⟨g, 1, none⟩ ⟨g, 0, none⟩ (.int .i64 q) (by simp))
    clear hlt
    by_cases hcp : cap = p
    · subst hcp
      go_enter Try.func77, Try.ntmps77
      go_wp2
      go_region
      go_wp2
      go_region
      go_wp2
      go_ret
      exact .inl ⟨HL.out, by simp [cutV], HS.out.1, grown_drew (grown_drew HS.out.2)⟩
    · go_enter Try.func77, Try.ntmps77
      go_wp2
      go_region
      go_wp2
      go_region
      go_wp2
      go_ret
      exact .inl ⟨HL.out, by simp [cutV, hcp], HS.out.1, grown_drew (grown_drew HS.out.2)⟩
end Go.Proofs.Ytihhchebcojplaa
