import Derived.Test.YtilcbdhcojgcbaaJICp
import Derived.Test.YtilcbdhcojgcbaaRows
import Derived.WalkSpells
import Derived.WalkLawsBesides
import Derived.Test.YtilcbdhcojgcbaaJMath
import Derived.RegionTactic
import Derived.ChangeAlike
import Derived.BigRegion
/- Cutting data by the program's forms, step by step: mathematics. -/
namespace Go.Proofs.Ytilcbdhcojgcbaa
open Go.RowKit

def cutCode (t : Int) (d : ByteArray) : Int :=
  if t < 0 ∨ 65535 < t then 6 else if 65535 < d.size then 7 else if (Dt.spans (Dt.implP t) 0 d).isSome then 0 else 7
def cutS (t : Int) (d : ByteArray) : Option (List (Nat × Nat)) := if t < 0 ∨ 65535 < t then none else if 65535 < d.size then none else Dt.spans (Dt.implP t) 0 d

def spanCells (sp : List (Nat × Nat)) : List Value := sp.flatMap fun s => [.int .i64 (s.1 : Int), .int .i64 (s.2 : Int)]
theorem spanCells_append (a b : List (Nat × Nat)) : spanCells (a ++ b) = spanCells a ++ spanCells b := by simp [spanCells]

/-- Where the cutting stands. -/
def CAt (fs : List Dt.Pc) (d : ByteArray) (sp : List (Nat × Nat)) (r : List Dt.Pc) (a : Nat) : Prop :=
  Dt.spans fs 0 d = (Dt.spans r a (d.extract a d.size)).map (fun t => sp ++ t)

theorem cat_start (fs : List Dt.Pc) (d : ByteArray) : CAt fs d [] fs 0 := by simp [CAt]
theorem cat_end {fs : List Dt.Pc} {d : ByteArray} {sp : List (Nat × Nat)} {a : Nat} (h : CAt fs d sp [] a) (h0 : d.size ≤ a) : Dt.spans fs 0 d = some sp := by
  rw [h, Dt.spans, if_pos (by simp; omega)]; simp
theorem cat_left {fs : List Dt.Pc} {d : ByteArray} {sp : List (Nat × Nat)} {a : Nat} (h : CAt fs d sp [] a) (h0 : a < d.size) : Dt.spans fs 0 d = none := by
  rw [h, Dt.spans, if_neg (by simp; omega)]; rfl
theorem cat_none {fs r : List Dt.Pc} {p : Dt.Pc} {d : ByteArray} {sp : List (Nat × Nat)} {a : Nat} (h : CAt fs d sp (p :: r) a) (h0 : Dt.sz p (d.extract a d.size) = none) : Dt.spans fs 0 d = none := by
  rw [h, Dt.spans, h0]; rfl
theorem cat_step {fs r : List Dt.Pc} {p : Dt.Pc} {d : ByteArray} {sp : List (Nat × Nat)} {a n : Nat} (h : CAt fs d sp (p :: r) a) (ha : a ≤ d.size) (h0 : Dt.sz p (d.extract a d.size) = some n) :
    CAt fs d (sp ++ if p.isN then [(a, a + n)] else []) r (a + n) ∧ a + n ≤ d.size := by
  have hn := Dt.sz_le h0
  have hz : (d.extract a d.size).size = d.size - a := by simp
  refine ⟨?_, by omega⟩
  rw [CAt, h, Dt.spans, h0, Option.map_map, Dt.ext_ext (by omega) (Nat.le_refl _)]
  congr 1
  funext t
  cases p.isN <;> simp

theorem code_type {t : Int} {d : ByteArray} (h : t < 0 ∨ 65535 < t) : cutCode t d = 6 ∧ cutS t d = none := by
  rw [cutCode, cutS, if_pos h, if_pos h]; exact ⟨rfl, rfl⟩
theorem code_long {t : Int} {d : ByteArray} (h : ¬ (t < 0 ∨ 65535 < t)) (h1 : 65535 < d.size) : cutCode t d = 7 ∧ cutS t d = none := by
  rw [cutCode, cutS, if_neg h, if_neg h, if_pos h1, if_pos h1]; exact ⟨rfl, rfl⟩
theorem code_none {t : Int} {d : ByteArray} (h : ¬ (t < 0 ∨ 65535 < t)) (h1 : ¬ 65535 < d.size) (h2 : Dt.spans (Dt.implP t) 0 d = none) : cutCode t d = 7 ∧ cutS t d = none := by
  rw [cutCode, cutS, if_neg h, if_neg h, if_neg h1, if_neg h1, h2]; exact ⟨rfl, rfl⟩
theorem code_some {t : Int} {d : ByteArray} {sp : List (Nat × Nat)} (h : ¬ (t < 0 ∨ 65535 < t)) (h1 : ¬ 65535 < d.size) (h2 : Dt.spans (Dt.implP t) 0 d = some sp) : cutCode t d = 0 ∧ cutS t d = some sp := by
  rw [cutCode, cutS, if_neg h, if_neg h, if_neg h1, if_neg h1, h2]; exact ⟨rfl, rfl⟩
theorem implP_len (t : Int) : (Dt.implP t).length ≤ 5 := by
  unfold Dt.implP
  repeat' split
  all_goals simp
end Go.Proofs.Ytilcbdhcojgcbaa
/- A message's records: mathematics. -/
namespace Go.Proofs.Ytilcbdhcojgcbaa

/-- Some bytes of a message. -/
def cutL (l : List UInt8) (p n : Nat) : List UInt8 := (l.drop p).take n

theorem cutL_length {l : List UInt8} {p n : Nat} (h : p + n ≤ l.length) : (cutL l p n).length = n := by simp [cutL]; omega

theorem cutL_add {l : List UInt8} {p n m : Nat} : cutL l p (n + m) = cutL l p n ++ cutL l (p + n) m := by
  simp [cutL, List.take_add]

/-- Data up to a place, by its pieces: none is a name, some n are n bytes. -/
def dtP (l : List UInt8) (fin : Nat) : List (Option Nat) → Nat → List UInt8 → Rs (List UInt8)
  | [], p, acc => if p = fin then .ok acc fin else .bad 7
  | none :: ps, p, acc => match dnF l p p [] none with
    | .inl c => .bad c
    | .inr (s, nx) => if nx ≤ fin then dtP l fin ps nx (acc ++ s) else .bad 7
  | some n :: ps, p, acc => if p + n ≤ fin then dtP l fin ps (p + n) (acc ++ cutL l p n) else .bad 7

theorem dtP_bytes (l : List UInt8) (fin : Nat) : ∀ (n p : Nat) (acc : List UInt8), p ≤ fin → dtP l fin (List.replicate n (some 1)) p acc = dtP l fin [some n] p acc := by
  intro n
  induction n with
  | zero => intro p acc h; simp [dtP, cutL, h]
  | succ n ih =>
    intro p acc h
    rw [List.replicate_succ, dtP]
    by_cases h1 : p + 1 ≤ fin
    · rw [if_pos h1, ih (p + 1) _ h1, dtP, dtP]
      have e : p + 1 + n = p + (n + 1) := by omega
      rw [e, List.append_assoc, ← cutL_add, Nat.add_comm 1 n, dtP, dtP]
    · rw [if_neg h1, dtP, if_neg (by omega)]


def piecesOf (t : Nat) : List (Option Nat) := if t = 6 then [none, none, some 20] else if t = 15 then [some 2, none] else [none]

/-- A record's data. -/
def dataS (l : List UInt8) (t p fin : Nat) : Rs (List UInt8) :=
  if p = fin then .ok [] fin
  else if pointed t then dtP l fin (piecesOf t) p []
  else if cutCode t ⟨(cutL l p (fin - p)).toArray⟩ = 0 then .ok (cutL l p (fin - p)) fin else .bad 7

/-- The number of four bytes at a place. -/
def n32 (l : List UInt8) (i : Nat) : Nat := numL (cutL l i 4)

theorem n32_lt (l : List UInt8) (i : Nat) : n32 l i < 4294967296 := by
  have h := numL_lt (cutL l i 4)
  have h2 : (cutL l i 4).length ≤ 4 := by simp [cutL]; omega
  have h3 : 256 ^ (cutL l i 4).length ≤ 256 ^ 4 := Nat.pow_le_pow_right (by decide) h2
  unfold n32
  omega

/-- A question: its name, type and class. -/
structure Qm where
  name : List UInt8
  ty : Nat
  cl : Nat

/-- A record. -/
structure Rm where
  owner : List UInt8
  ty : Nat
  cl : Nat
  ttl : Nat
  dat : List UInt8

def quS (l : List UInt8) (p : Nat) : Rs Qm :=
  match dnF l p p [] none with
  | .inl c => .bad c
  | .inr (s, nx) => if nx + 4 ≤ l.length then .ok ⟨s, n16 l nx, n16 l (nx + 2)⟩ (nx + 4) else .bad 8

def rrS (l : List UInt8) (p : Nat) : Rs Rm :=
  match dnF l p p [] none with
  | .inl c => .bad c
  | .inr (s, nx) =>
    if nx + 10 ≤ l.length then
      if nx + 10 + n16 l (nx + 8) ≤ l.length then
        match dataS l (n16 l nx) (nx + 10) (nx + 10 + n16 l (nx + 8)) with
        | .inl c => .bad c
        | .inr (d, _) => .ok ⟨s, n16 l nx, n16 l (nx + 2), n32 l (nx + 4), d⟩ (nx + 10 + n16 l (nx + 8))
      else .bad 8
    else .bad 8

/-- So many entries, one behind the other. -/
def manyS {α : Type} (f : Nat → Rs α) : Nat → Nat → List α → Rs (List α)
  | 0, p, acc => .ok acc p
  | n + 1, p, acc => match f p with
    | .inl c => .bad c
    | .inr (x, q) => manyS f n q (acc ++ [x])

/-- What stands in a message's lists. -/
structure Mm where
  qs : List Qm
  an : List Rm
  au : List Rm
  ex : List Rm

/-- A message's entries behind its head. -/
def listsS (l : List UInt8) : Rs Mm :=
  match manyS (quS l) (n16 l 4) 12 [] with
  | .inl c => .bad c
  | .inr (qs, p1) => match manyS (rrS l) (n16 l 6) p1 [] with
    | .inl c => .bad c
    | .inr (an, p2) => match manyS (rrS l) (n16 l 8) p2 [] with
      | .inl c => .bad c
      | .inr (au, p3) => match manyS (rrS l) (n16 l 10) p3 [] with
        | .inl c => .bad c
        | .inr (ex, p4) => if p4 < l.length then .bad 10 else .ok ⟨qs, an, au, ex⟩ p4

/-- A message. -/
def msgS (l : List UInt8) : Rs Mm :=
  if 65535 < l.length then .bad 11
  else if l.length < 12 then .bad 8
  else if 400 < n16 l 4 + n16 l 6 + n16 l 8 + n16 l 10 then .bad 12
  else listsS l
end Go.Proofs.Ytilcbdhcojgcbaa
/- The lists of a message, one entry behind the other: mathematics. -/
namespace Go.Proofs.Ytilcbdhcojgcbaa

/-- How many entries list k has. -/
def cntK (l : List UInt8) (k : Nat) : Nat := if k = 1 then n16 l 6 else if k = 2 then n16 l 8 else if k = 3 then n16 l 10 else 0

def cont4 (l : List UInt8) (pos : Nat) (m : Mm) : Rs Mm := if pos < l.length then .bad 10 else .ok m pos
def cont3 (l : List UInt8) (c pos : Nat) (m : Mm) : Rs Mm :=
  match manyS (rrS l) c pos m.ex with
  | .inl c => .bad c
  | .inr (x, p) => cont4 l p ⟨m.qs, m.an, m.au, x⟩
def cont2 (l : List UInt8) (c pos : Nat) (m : Mm) : Rs Mm :=
  match manyS (rrS l) c pos m.au with
  | .inl c => .bad c
  | .inr (x, p) => cont3 l (n16 l 10) p ⟨m.qs, m.an, x, m.ex⟩
def cont1 (l : List UInt8) (c pos : Nat) (m : Mm) : Rs Mm :=
  match manyS (rrS l) c pos m.an with
  | .inl c => .bad c
  | .inr (x, p) => cont2 l (n16 l 8) p ⟨m.qs, x, m.au, m.ex⟩

/-- What is left to be read: c entries of list k from a place on, and the lists behind it. -/
def contK (l : List UInt8) (k c pos : Nat) (m : Mm) : Rs Mm := if k = 1 then cont1 l c pos m else if k = 2 then cont2 l c pos m else if k = 3 then cont3 l c pos m else cont4 l pos m

/-- An entry more in list k. -/
def addK (m : Mm) (k : Nat) (r : Rm) : Mm := if k = 1 then ⟨m.qs, m.an ++ [r], m.au, m.ex⟩ else if k = 2 then ⟨m.qs, m.an, m.au ++ [r], m.ex⟩ else ⟨m.qs, m.an, m.au, m.ex ++ [r]⟩

theorem listsS_cont {l : List UInt8} {qs : List Qm} {p : Nat} (h : manyS (quS l) (n16 l 4) 12 [] = .ok qs p) : listsS l = contK l 1 (cntK l 1) p ⟨qs, [], [], []⟩ := by
  rw [listsS, h, contK, if_pos rfl, cntK, if_pos rfl, cont1]
  simp only
  cases manyS (rrS l) (n16 l 6) p [] using Rs.elim with
  | bad c => rfl
  | ok an p2 =>
    simp only
    rw [cont2]
    simp only
    cases manyS (rrS l) (n16 l 8) p2 [] using Rs.elim with
    | bad c => rfl
    | ok au p3 =>
      simp only
      rw [cont3]
      simp only
      cases manyS (rrS l) (n16 l 10) p3 [] using Rs.elim with
      | bad c => rfl
      | ok ex p4 => rfl

theorem contK_zero {l : List UInt8} {k pos : Nat} {m : Mm} (h1 : 1 ≤ k) (h3 : k ≤ 3) : contK l k 0 pos m = contK l (k + 1) (cntK l (k + 1)) pos m := by
  have : k = 1 ∨ k = 2 ∨ k = 3 := by omega
  rcases this with rfl | rfl | rfl
  · simp [contK, cont1, manyS, cntK]
  · simp [contK, cont2, manyS, cntK]
  · simp [contK, cont3, manyS]

theorem contK_bad {l : List UInt8} {k c pos : Nat} {m : Mm} {code : Int} (h1 : 1 ≤ k) (h3 : k ≤ 3) (h : rrS l pos = .bad code) : contK l k (c + 1) pos m = .bad code := by
  have : k = 1 ∨ k = 2 ∨ k = 3 := by omega
  rcases this with rfl | rfl | rfl
  · simp [contK, cont1, manyS, h]
  · simp [contK, cont2, manyS, h]
  · simp [contK, cont3, manyS, h]

theorem contK_ok {l : List UInt8} {k c pos q : Nat} {m : Mm} {r : Rm} (h1 : 1 ≤ k) (h3 : k ≤ 3) (h : rrS l pos = .ok r q) : contK l k (c + 1) pos m = contK l k c q (addK m k r) := by
  have : k = 1 ∨ k = 2 ∨ k = 3 := by omega
  rcases this with rfl | rfl | rfl
  · simp [contK, cont1, manyS, h, addK]
  · simp [contK, cont2, manyS, h, addK]
  · simp [contK, cont3, manyS, h, addK]

theorem contK_end {l : List UInt8} {c pos : Nat} {m : Mm} : contK l 4 c pos m = if pos < l.length then .bad 10 else .ok m pos := rfl

theorem rrS_place {l : List UInt8} {p q : Nat} {r : Rm} (h : rrS l p = .ok r q) : q ≤ l.length := by
  rw [rrS] at h
  split at h
  · cases h
  · split at h
    · split at h
      · split at h
        · cases h
        · cases h; assumption
      · cases h
    · cases h
/-- All records of a message. -/
def allR (m : Mm) : List Rm := m.an ++ m.au ++ m.ex
theorem manyS_snoc {α : Type} (f : Nat → Rs α) : ∀ (n p : Nat) (acc : List α) {ys : List α} {q q2 : Nat} {x : α}, manyS f n p acc = .ok ys q → f q = .ok x q2 → manyS f (n + 1) p acc = .ok (ys ++ [x]) q2 := by
  intro n
  induction n with
  | zero =>
    intro p acc ys q q2 x h hx
    rw [manyS] at h
    cases h
    rw [manyS, hx]
    rfl
  | succ n ih =>
    intro p acc ys q q2 x h hx
    rw [manyS] at h ⊢
    cases hf : f p using Rs.elim with
    | bad c => rw [hf] at h; cases h
    | ok y r =>
      rw [hf] at h
      simp only at h ⊢
      exact ih r _ h hx
/-- The records so far have been read from a place on; the last of them began at another. -/
def LI (l : List UInt8) (P1 : Nat) (m : Mm) (pos : Nat) (nl : Int) : Prop :=
  manyS (rrS l) (allR m).length P1 [] = .ok (allR m) pos ∧ (0 < (allR m).length → ∃ (q : Nat) (xs : List Rm), nl = (q : Int) ∧ manyS (rrS l) ((allR m).length - 1) P1 [] = .ok xs q)
theorem LI_start (l : List UInt8) (p : Nat) (qs : List Qm) (n : Int) : LI l p ⟨qs, [], [], []⟩ p n := ⟨rfl, fun h => by simp [allR] at h⟩
theorem LI_add {l : List UInt8} {P1 pos q : Nat} {m m' : Mm} {nl : Int} {r : Rm} (h : LI l P1 m pos nl) (hr : rrS l pos = .ok r q) (he : allR m' = allR m ++ [r]) : LI l P1 m' q (pos : Int) := by
  have e : (allR m').length = (allR m).length + 1 := by rw [he]; simp
  refine ⟨?_, fun _ => ⟨pos, allR m, rfl, ?_⟩⟩
  · rw [e, he]; exact manyS_snoc _ _ _ _ h.1 hr
  · rw [e]; exact h.1
theorem LI_1 {l : List UInt8} {P1 pos q : Nat} {m : Mm} {nl : Int} {r : Rm} (h : LI l P1 m pos nl) (hr : rrS l pos = .ok r q) (h2 : m.au.length = 0) (h3 : m.ex.length = 0) : LI l P1 ⟨m.qs, m.an ++ [r], m.au, m.ex⟩ q (pos : Int) :=
  LI_add h hr (by simp [allR, List.length_eq_zero_iff.1 h2, List.length_eq_zero_iff.1 h3])
theorem LI_2 {l : List UInt8} {P1 pos q : Nat} {m : Mm} {nl : Int} {r : Rm} (h : LI l P1 m pos nl) (hr : rrS l pos = .ok r q) (h3 : m.ex.length = 0) : LI l P1 ⟨m.qs, m.an, m.au ++ [r], m.ex⟩ q (pos : Int) :=
  LI_add h hr (by simp [allR, List.length_eq_zero_iff.1 h3])
theorem LI_3 {l : List UInt8} {P1 pos q : Nat} {m : Mm} {nl : Int} {r : Rm} (h : LI l P1 m pos nl) (hr : rrS l pos = .ok r q) : LI l P1 ⟨m.qs, m.an, m.au, m.ex ++ [r]⟩ q (pos : Int) :=
  LI_add h hr (by simp [allR])
/-- Where the last record of a message that was read begins. -/
def LastOK (l : List UInt8) (m : Mm) (n : Int) : Prop := ∃ (qs : List Qm) (P1 pos : Nat), manyS (quS l) (n16 l 4) 12 [] = .ok qs P1 ∧ LI l P1 m pos n
end Go.Proofs.Ytilcbdhcojgcbaa
/- impl.nameSize by its contract. -/
namespace Go.Proofs.Ytilcbdhcojgcbaa
open Go.RowKit

/-- A size and whether there is one, as Go tells them. -/
def szV (o : Option Nat) : Value := .tuple #[.int .i64 ((o.getD 0 : Nat) : Int), .bool o.isSome]

theorem nsz_none {s : ByteArray} {i : Nat} (h : Dt.nameAtS s = Dt.nameF 256 s i) (h1 : Dt.nameF 256 s i = ByteArray.empty) : szV (Dt.sz .nm s) = .tuple #[.int .i64 0, .bool false] := by
  have : (Dt.nameAtS s).size = 0 := by rw [h, h1]; rfl
  rw [Dt.sz, if_pos this]; rfl
theorem nsz_zero {s : ByteArray} {i : Nat} (h : Dt.nameAtS s = Dt.nameF 256 s i) (h1 : i < s.size) (h2 : i < 255) (h0 : s[i].toNat = 0) : szV (Dt.sz .nm s) = .tuple #[.int .i64 ((i : Int) + 1), .bool true] := by
  have e : Dt.nameF 256 s i = s.extract 0 (i + 1) := by rw [Dt.nameF, dif_pos ⟨h1, h2⟩, if_pos h0]
  have e1 : (Dt.nameAtS s).size = i + 1 := by rw [h, e]; simp; omega
  rw [Dt.sz, if_neg (by omega), e1]; rfl
theorem nsz_step {s : ByteArray} {i : Nat} (h : Dt.nameAtS s = Dt.nameF 256 s i) (h1 : i < s.size) (h2 : i < 255) (h0 : s[i].toNat ≠ 0) (h3 : s[i].toNat ≤ 63) : Dt.nameAtS s = Dt.nameF 256 s (i + (1 + s[i].toNat)) := by
  rw [h, Dt.nameF, dif_pos ⟨h1, h2⟩, if_neg h0, if_neg (by omega), show i + s[i].toNat + 1 = i + (1 + s[i].toNat) by omega]
  exact Dt.nameF_enough _ _ _ _ (by omega) (by omega)
theorem nsz_big {s : ByteArray} {i : Nat} (h1 : i < s.size) (h2 : i < 255) (h0 : 63 < s[i].toNat) : Dt.nameF 256 s i = ByteArray.empty := by
  rw [Dt.nameF, dif_pos ⟨h1, h2⟩, if_neg (by omega), if_pos h0]
theorem nsz_end {s : ByteArray} {i : Nat} (h : ¬ (i < s.size ∧ i < 255)) : Dt.nameF 256 s i = ByteArray.empty := by
  rw [Dt.nameF, dif_neg h]

set_option maxRecDepth 100000 in
set_option maxHeartbeats 800000 in
theorem nameSize_any (s : ByteArray) (w : World) :
    Calls Try.prog 104 #[.string s] w fun e w' => e = .returned (szV (Dt.sz .nm s)) ∧ w' = w := by
  have H0 : Dt.nameAtS s = Dt.nameF 256 s 0 := rfl
  go_enter Try.func104, Try.ntmps104
  go_wp2
  go_loop [4] (fun v => ∃ i : Nat, i < 255 ∧ v = .int .i64 i ∧ Dt.nameAtS s = Dt.nameF 256 s i) (fun v => 400 - (intOf v).toNat)
  case atStart => exact ⟨0, by omega, rfl, H0⟩
  case round =>
    obtain ⟨i, hi, rfl, hn⟩ := hrel
    clear H0
    by_cases h1 : i < s.size
    · have h1' : (i : Int) < (s.size : Int) := by omega
      have hc : (s[i].toNat : Int) < 256 := by have := s[i].toNat_lt; omega
      by_cases h3 : s[i].toNat = 0
      · have HN := Nm.hide (nsz_zero hn h1 hi h3)
        have h3' : ((s[i].toNat : Int) == 0) = true := by rw [beq_iff_eq]; omega
        clear hn h3
        go_wp2
        go_ret2
        rw [HN.out]
        exact ⟨rfl, rfl⟩
      · have h3' : ((s[i].toNat : Int) == 0) = false := by rw [beq_eq_false_iff_ne]; omega
        have h3'' : (0 : Int) < (s[i].toNat : Int) := by omega
        by_cases h4 : 63 < s[i].toNat
        · have HN := Nm.hide (nsz_none hn (nsz_big h1 hi h4))
          have h4' : (63 : Int) < (s[i].toNat : Int) := by omega
          clear hn h3
          go_wp2_with (go_at_call 105; go_in)
          go_ret2
          rw [HN.out]
          exact ⟨rfl, rfl⟩
        · have h4' : (s[i].toNat : Int) ≤ 63 := by omega
          have hst := nsz_step hn h1 hi h3 (by omega)
          by_cases h5 : 255 ≤ i + (1 + s[i].toNat)
          · have HN := Nm.hide (nsz_none hst (nsz_end (by omega)))
            have h5' : (255 : Int) ≤ (i : Int) + (1 + (s[i].toNat : Int)) := by omega
            clear hn h3 hst
            go_wp2_with (go_at_call 105; go_in)
            go_ret2
            rw [HN.out]
            exact ⟨rfl, rfl⟩
          · have HN := Nm.hide hst
            have h5' : (i : Int) + (1 + (s[i].toNat : Int)) < 255 := by omega
            clear hn h3 hst
            go_wp2_with (go_at_call 105; go_in)
            go_round
            case rel => exact ⟨i + (1 + s[i].toNat), by omega, by go_num, HN.out⟩
            case measure => simp [intOf]; omega
    · have HN := Nm.hide (nsz_none hn (nsz_end (by omega)))
      have h1' : (s.size : Int) ≤ (i : Int) := by omega
      clear hn
      go_wp2
      go_ret2
      rw [HN.out]
      exact ⟨rfl, rfl⟩
end Go.Proofs.Ytilcbdhcojgcbaa
/- impl.NameOK by its contract. -/
namespace Go.Proofs.Ytilcbdhcojgcbaa
open Go.RowKit

theorem nok_true {s : ByteArray} (h : (Nm.split s).isSome = true) : Dt.sz .nm s = some s.size := by
  obtain ⟨h1, h2⟩ := (Dt.name_iff s).1 h
  rw [Dt.sz, if_neg h1, h2]
theorem nok_false {s : ByteArray} (h : (Nm.split s).isSome = false) : Dt.sz .nm s = none ∨ ∃ n, Dt.sz .nm s = some n ∧ n ≠ s.size := by
  by_cases h0 : (Dt.nameAtS s).size = 0
  · left; rw [Dt.sz, if_pos h0]
  · right
    refine ⟨_, by rw [Dt.sz, if_neg h0], ?_⟩
    intro e
    rw [(Dt.name_iff s).2 ⟨h0, e⟩] at h
    simp at h

end Go.Proofs.Ytilcbdhcojgcbaa
/- spec.l01Split by its contract. -/
namespace Go.Proofs.Ytilcbdhcojgcbaa
open Go.RowKit

set_option maxRecDepth 100000 in
set_option maxHeartbeats 800000 in
theorem l01Split_any (s : ByteArray) (w : World) (hs : s.size ≤ maxLen) :
    Calls Try.prog 50 #[.string s] w fun e w' => ∃ v, e = .returned (.tuple #[v, .bool (Nm.split s).isSome]) ∧
      w'.ownsRow w.heap.size 9 1 v ((Nm.split s).getD []).length (((Nm.split s).getD []).map Value.string) ∧ Below w.heap.size w w' := by
  unfold maxLen at hs
  obtain ⟨i0, hi, hz0, hz1, hz2⟩ := info_parts Try.infoStr
  by_cases hlong : 255 < s.size
  · have H : Hid (Nm.split s = none) := Nm.split_long s hlong
    have hl : (255 : Int) < (s.size : Int) := by omega
    go_enter Try.func50, Try.ntmps50
    go_wp2
    go_ret2
    rw [H.out]
    exact ⟨_, rfl, World.ownsRow_nil _ _ _ _, (Below.refl _ _).alloc (Nat.le_refl _) _⟩
  by_cases hshort : s.size = 0
  · have H : Hid (Nm.split s = none) := Nm.at_empty (Nm.at_start s (by omega)) hshort
    have hl : (s.size : Int) < 1 := by omega
    go_enter Try.func50, Try.ntmps50
    go_wp2
    go_ret2
    rw [H.out]
    exact ⟨_, rfl, World.ownsRow_nil _ _ _ _, (Below.refl _ _).alloc (Nat.le_refl _) _⟩
  · have hl : (s.size : Int) ≤ 255 := by omega
    have hl1 : (1 : Int) ≤ (s.size : Int) := by omega
    have hst := Nm.at_start s (by omega)
    go_enter Try.func50, Try.ntmps50
    go_wp2
    go_loopw [4, 5] (fun v x wr => ∃ (ls : List ByteArray) (r : ByteArray), x = .string r ∧ Nm.At s ls r ∧ ls.length + r.size ≤ 255 ∧ wr.ownsRow w.heap.size 9 1 v ls.length (ls.map Value.string) ∧ Below w.heap.size w wr)
      (fun _ x _ => match x with | .string r => r.size | _ => 0)
    case atStart => exact ⟨[], s, rfl, hst, by simp; omega, World.ownsRow_made w #[] 0 (Nat.le_refl _) (by decide) rfl, (Below.refl _ _).alloc (Nat.le_refl _) _⟩
    case round =>
      obtain ⟨ls, r, rfl, hat, hb, hown, hbel⟩ := hrel
      clear hst
      by_cases h0 : r.size = 0
      · have HN : Hid (Nm.split s = none) := Nm.at_empty hat h0
        have e2 := Nm.tl_empty h0
        go_wp2
        go_ret2
        rw [HN.out]
        exact ⟨_, rfl, World.ownsRow_nil _ _ _ _, hbel⟩
      · have hp : 0 < r.size := by omega
        have hn : (r[0].toNat : Int) < 256 := by have := r[0].toNat_lt; omega
        have e2 := Nm.tl_not_empty hp
        by_cases h2 : r[0].toNat = 0
        · have e3 : ((r[0].toNat : Int) == 0) = true := by simp [h2]
          by_cases h1 : r.size = 1
          · have HN : Hid (Nm.split s = some ls) := Nm.at_end hat hp h2 h1
            have e4 : ((r.size : Int) != 1) = false := by simp [h1]
            clear h1 h2
            go_wp2
            go_ret2
            rw [HN.out]
            exact ⟨_, rfl, hown, hbel⟩
          · have HN : Hid (Nm.split s = none) := Nm.at_zero hat hp h2 h1
            have e4 : ((r.size : Int) != 1) = true := by rw [bne_iff_ne]; omega
            clear h1 h2
            go_wp2
            go_ret2
            rw [HN.out]
            exact ⟨_, rfl, World.ownsRow_nil _ _ _ _, hbel⟩
        · have e3 : ((r[0].toNat : Int) == 0) = false := by rw [beq_eq_false_iff_ne]; omega
          have e3' : (0 : Int) < (r[0].toNat : Int) := by omega
          by_cases h3 : 63 < r[0].toNat
          · have HN : Hid (Nm.split s = none) := Nm.at_bad hat hp h2 (.inl h3)
            have e4 : (63 : Int) < (r[0].toNat : Int) := by omega
            clear h2 h0 h3
            go_wp2
            go_ret2
            rw [HN.out]
            exact ⟨_, rfl, World.ownsRow_nil _ _ _ _, hbel⟩
          · have e4 : (r[0].toNat : Int) ≤ 63 := by omega
            by_cases h4 : r.size < r[0].toNat + 1
            · have HN : Hid (Nm.split s = none) := Nm.at_bad hat hp h2 (.inr h4)
              have e5 : (r.size : Int) < (r[0].toNat : Int) + 1 := by omega
              clear h2 h0 h3 h4
              go_wp2
              go_ret2
              rw [HN.out]
              exact ⟨_, rfl, World.ownsRow_nil _ _ _ _, hbel⟩
            · have e5 : (r[0].toNat : Int) + 1 ≤ (r.size : Int) := by omega
              have HN : Hid (Nm.At s (ls ++ [r.extract 1 (r[0].toNat + 1)]) (r.extract (r[0].toNat + 1) r.size)) := Nm.at_step hat hp h2 (by omega) (by omega)
              have hsz := hbel.size
              clear h2 h0 h3 h4
              go_wp2_with (at_builtin; refine wpList_append_own _ rfl (.tmp 37) (.tmp 42) 65 rfl w.heap.size 9 i0 (.string ByteArray.empty) 1 16 Try.underlying65 hi hz0 hz1 hz2 rfl (by decide) _ _ _ rfl (hown.alloc _) ⟨wr.heap.size, 0, none⟩ 1 1 [.string (r.extract 1 (r[0].toNat + 1))] rfl rfl ?c1 ?c2 ?c3 ?c4 ?c5 ?_)
              case c1 =>
                intro j u hj
                match j, hj with
                | 0, hj => simp at hj; subst hj; simp [Addr.add]
              case c2 => exact Nm.one_cell _ rfl
              case c3 => unfold maxLen; omega
              case c4 => omega
              case c5 => simp; omega
              · intro v' w1 hown' hgrow _
                have R := own_step hsz hown hbel _ hown' hgrow
                clear hown' hgrow hown hbel
                go_wp2
                go_roundw
                case rel => exact ⟨_, _, rfl, HN.out, by simp; omega, R.1, R.2⟩
                case measure => simp; omega
end Go.Proofs.Ytilcbdhcojgcbaa
/- spec.NameOK by its contract. -/
namespace Go.Proofs.Ytilcbdhcojgcbaa
open Go.RowKit

set_option maxRecDepth 100000 in
set_option maxHeartbeats 400000 in
theorem specNameOK_any (s : ByteArray) (w : World) (hs : s.size ≤ maxLen) :
    Calls Try.prog 31 #[.string s] w fun e w' => e = .returned (.bool (Nm.split s).isSome) ∧ Below w.heap.size w w' := by
  go_enter Try.func31, Try.ntmps31
  go_wp2_with (go_at_call 50; refine (l01Split_any s _ hs).mono ?_; rintro e w1 ⟨v, rfl, hown, hbel⟩)
  go_ret
  exact ⟨rfl, by assumption⟩
end Go.Proofs.Ytilcbdhcojgcbaa
/- string([]byte{c}), and small things. -/
namespace Go.Proofs.Ytilcbdhcojgcbaa
open Go.RowKit

theorem conv_one (n : Int) (W : World) :
    (convert 22 9 (.slice (some ⟨W.heap.size, 0, none⟩) 1 1)).run Try.prog (W.alloc (.cells #[.int .u8 n] 5)) = .ok (.string ⟨#[UInt8.ofNat n.toNat]⟩) (W.alloc (.cells #[.int .u8 n] 5)) := by
  rw [run_convert_bytes_string _ 22 9 5 _ _ _ Try.underlying22 Try.underlying5 Try.underlying9]
  have hl := run_loadCells_list (P := Try.prog) (W.alloc (.cells #[.int .u8 n] 5)) ⟨W.heap.size, 0, none⟩ ([n].map (Value.int .u8)) (fun j v hj => cell_one_new W (.int .u8 n) 5 j v hj)
  rw [run_bytesToString _ _ 1 1 [n] hl]
  rfl

theorem conv_one_drew (n : Int) (W : World) :
    (convert 22 9 (.slice (some ⟨W.heap.size, 0, none⟩) 1 1)).run Try.prog (W.alloc (.cells #[.int .u8 n] 5)).drew = .ok (.string ⟨#[UInt8.ofNat n.toNat]⟩) (W.alloc (.cells #[.int .u8 n] 5)).drew :=
  conv_one n W.drew

theorem ret_str {a b : ByteArray} (h : a = b) : Ending.returned (.string a) = .returned (.string b) := by rw [h]

theorem byte_mod (n : Nat) : UInt8.ofNat (n % 256) = UInt8.ofNat n := by
  apply UInt8.toNat_inj.1
  simp

theorem ba_ext {a b : ByteArray} (h : a.data.toList = b.data.toList) : a = b := by
  apply ByteArray.ext
  exact Array.toList_inj.1 h

theorem size_list (s : ByteArray) : s.data.toList.length = s.size := by simp

end Go.Proofs.Ytilcbdhcojgcbaa
/- spec.l01Join by its contract. -/
namespace Go.Proofs.Ytilcbdhcojgcbaa
open Go.RowKit

set_option maxRecDepth 100000 in
set_option maxHeartbeats 800000 in
theorem l01Join_any (v : Value) (ls : List ByteArray) (w : World) (h : Nm.SRow w v ls) (hlen : Nm.wsum ls ≤ 1000000000) :
    Calls Try.prog 48 #[v] w fun e w' => e = .returned (.string ⟨(Nm.joinL ls).toArray⟩) ∧ Below w.heap.size w w' := by
  obtain ⟨a, cap, rfl, hcap, hmx, hnl, hc⟩ := h
  have hll := Nm.length_le_wsum ls
  go_enter Try.func48, Try.ntmps48
  go_wp2
  go_loopw [3, 4] (fun t i wr => ∃ (k : Nat) (s : ByteArray), k ≤ ls.length ∧ i = .int .i64 k ∧ t = .string s ∧ Hid (s.data.toList = Nm.preL (ls.take k)) ∧ Below w.heap.size w wr)
    (fun _ i _ => ls.length - (intOf i).toNat)
  case atStart => exact ⟨0, _, Nat.zero_le _, rfl, rfl, rfl, Below.refl _ _⟩
  case round =>
    obtain ⟨k, s, hk, rfl, rfl, HS, hbel⟩ := hrel
    have hw := Nm.wsum_take_le ls k
    have hsz := hbel.size
    have hss : s.size = Nm.wsum (ls.take k) := by rw [← size_list, HS.out, Nm.preL_length]
    have hss' : s.size ≤ 1000000000 := by omega
    by_cases hlt : k < ls.length
    · obtain ⟨x, hx⟩ : ∃ x, ls[k]? = some x := ⟨_, List.getElem?_eq_getElem hlt⟩
      obtain ⟨b, off, rfl, hcell⟩ := hc (by intro h; rw [h] at hlt; simp at hlt)
      have hbk : b < wr.heap.size := Nat.lt_of_lt_of_le (World.block_lt_of_cell? w _ (hcell k x hx)) hsz
      have hcx : wr.cell? ⟨b, off + k, none⟩ = some (.string x) := (hbel.cell (World.block_lt_of_cell? w _ (hcell k x hx))).trans (hcell k x hx)
      have HP : Hid (Nm.preL (ls.take (k + 1)) = Nm.preL (ls.take k) ++ (UInt8.ofNat x.size :: x.data.toList)) := Nm.preL_step hx
      have hw1 : s.size + (1 + x.size) ≤ 1000000000 := by
        have h1 := Nm.wsum_step hx
        have h2 := Nm.wsum_take_le ls (k + 1)
        omega
      have hcv := fun n => conv_one_drew n wr
      clear hx hcell hc hnl hss hw
      go_wp2
      go_region
      all_goals
        go_wp2
        go_roundw
        case rel => exact ⟨k + 1, _, by omega, by go_num, rfl, by show _ = _; rw [HP.out, ← HS.out]; simp [byte_mod], (hbel.alloc hsz _).drew⟩
        case measure => simp [intOf]; omega
    · have hkl : k = ls.length := by omega
      subst hkl
      rw [List.take_length] at HS
      clear hc hnl hw hlt hss
      have hone : (ByteArray.mk #[0]).size = 1 := rfl
      go_wp2
      go_ret
      exact ⟨ret_str (ba_ext (by simp [Nm.joinL, HS.out])), hbel⟩
end Go.Proofs.Ytilcbdhcojgcbaa
/- Keys: valid or not; the algorithm's name; by their contracts. -/
namespace Go.Proofs.Ytilcbdhcojgcbaa
open Go.RowKit
set_option linter.unusedVariables false

def keyB (nm sc : ByteArray) : Bool := (Nm.split nm).isSome && (decide (1 ≤ sc.size) && decide (sc.size ≤ 64))

set_option maxRecDepth 100000 in
set_option maxHeartbeats 1600000 in
theorem l09KeyOK_any (nm sc : ByteArray) (w : World) (hn : nm.size ≤ maxLen) :
    Calls Try.prog 20 #[.agg #[.string nm, .string sc]] w fun e w' => e = .returned (.bool (keyB nm sc)) ∧ Below w.heap.size w w' := by
  have hno := fun W => specNameOK_any nm W hn
  clear hn
  have k0 := blk_new w #[.string nm, .string sc] 64
  have hB0 := (Below.refl w.heap.size w).alloc (Nat.le_refl _) (.cells #[.string nm, .string sc] 64)
  have HM : Hid (keyB nm sc = ((Nm.split nm).isSome && (decide (1 ≤ sc.size) && decide (sc.size ≤ 64)))) := rfl
  have q0 := blk_cell k0 0
  generalize keyB nm sc = M at *
  generalize (Nm.split nm).isSome = B at *
  cases B with
  | false =>
    obtain rfl : M = false := by rw [HM.out]; simp
    go_enter Try.func20, Try.ntmps20
    go_wp2_with (go_at_call 31; refine (hno _).mono ?_; rintro e w1 ⟨rfl, hb1⟩)
    go_ret
    exact ⟨rfl, Nm.below_two hB0 hb1⟩
  | true =>
    by_cases h1 : 1 ≤ sc.size
    · have h1' : (1 : Int) ≤ (sc.size : Int) := by omega
      have h1'' : (0 : Int) < (sc.size : Int) := by omega
      by_cases h2 : sc.size ≤ 64
      · have h2' : (sc.size : Int) ≤ 64 := by omega
        obtain rfl : M = true := by rw [HM.out]; simp [h1, h2]
        clear h1 h2
        go_enter Try.func20, Try.ntmps20
        go_wp2_with (go_at_call 31; refine (hno _).mono ?_; rintro e w1 ⟨rfl, hb1⟩; have q1 := (blk_cell (blk_below k0 hb1) 1).trans rfl)
        go_ret
        exact ⟨rfl, Nm.below_two hB0 hb1⟩
      · have h2' : ¬ (sc.size : Int) ≤ 64 := by omega
        have h2'' : decide ((sc.size : Int) ≤ 64) = false := by simpa using h2'
        obtain rfl : M = false := by rw [HM.out]; simp [h2]
        clear h1 h2
        go_enter Try.func20, Try.ntmps20
        go_wp2_with (go_at_call 31; refine (hno _).mono ?_; rintro e w1 ⟨rfl, hb1⟩; have q1 := (blk_cell (blk_below k0 hb1) 1).trans rfl)
        go_ret
        exact ⟨rfl, Nm.below_two hB0 hb1⟩
    · have h1' : ¬ (1 : Int) ≤ (sc.size : Int) := by omega
      have h1'' : ¬ (0 : Int) < (sc.size : Int) := by omega
      obtain rfl : M = false := by rw [HM.out]; simp [h1]
      clear h1
      go_enter Try.func20, Try.ntmps20
      go_wp2_with (go_at_call 31; refine (hno _).mono ?_; rintro e w1 ⟨rfl, hb1⟩; have q1 := (blk_cell (blk_below k0 hb1) 1).trans rfl)
      go_ret
      exact ⟨rfl, Nm.below_two hB0 hb1⟩

set_option maxRecDepth 100000 in
set_option maxHeartbeats 1600000 in
theorem l09Alg_any (w : World) : Calls Try.prog 33 #[] w fun e w' => e = .returned (.string ⟨algL.toArray⟩) ∧ Below w.heap.size w w' := by
  have hB0 := (Below.refl w.heap.size w).alloc (Nat.le_refl _) (.cells #[.string ⟨#[104, 109, 97, 99, 45, 115, 104, 97, 50, 53, 54]⟩] 9)
  have ho := World.ownsRow_lit (base := w.heap.size) (e := 9) (size := 1) w #[.string ⟨#[104, 109, 97, 99, 45, 115, 104, 97, 50, 53, 54]⟩] 1 (Nat.le_refl _) (by decide) rfl
  have hj := l01Join_any (.slice (some ⟨w.heap.size, 0, none⟩) 1 1) [⟨#[104, 109, 97, 99, 45, 115, 104, 97, 50, 53, 54]⟩] _ (Nm.SRow.of_owns ho) (by decide)
  have e : Nm.joinL [⟨#[104, 109, 97, 99, 45, 115, 104, 97, 50, 53, 54]⟩] = algL := by decide
  rw [e] at hj
  go_enter Try.func33, Try.ntmps33
  go_wp2_with fail
  refine hj.mono ?_
  rintro e w1 ⟨rfl, hb1⟩
  go_wp2
  go_ret
  exact ⟨rfl, Nm.below_two hB0 hb1⟩
end Go.Proofs.Ytilcbdhcojgcbaa
/- A row of keys; impl.validKeys by its contract. -/
namespace Go.Proofs.Ytilcbdhcojgcbaa
open Go.RowKit
set_option linter.unusedVariables false

/-- the cells of a row of keys -/
def kyVs (xs : List (ByteArray × ByteArray)) : List Value := xs.flatMap fun k => [.string k.1, .string k.2]
theorem kyVs_len (xs : List (ByteArray × ByteArray)) : (kyVs xs).length = xs.length * 2 := by
  induction xs with
  | nil => rfl
  | cons x xs ih =>
    have e : kyVs (x :: xs) = [.string x.1, .string x.2] ++ kyVs xs := by simp [kyVs]
    rw [e, List.length_append, ih]
    simp
    omega
theorem kyVs_at : ∀ (xs : List (ByteArray × ByteArray)) (k j : Nat) (x : ByteArray × ByteArray), xs[k]? = some x → j < 2 → (kyVs xs)[k * 2 + j]? = [Value.string x.1, .string x.2][j]? := by
  intro xs
  induction xs with
  | nil => intro k j x h; simp at h
  | cons y xs ih =>
    intro k j x h hj
    have e : kyVs (y :: xs) = [.string y.1, .string y.2] ++ kyVs xs := by simp [kyVs]
    cases k with
    | zero =>
      simp at h; subst h
      rw [e, Nat.zero_mul, Nat.zero_add, List.getElem?_append_left (by simpa using hj)]
    | succ k =>
      simp at h
      rw [e, List.getElem?_append_right (by simp; omega), show (k + 1) * 2 + j - [Value.string y.1, .string y.2].length = k * 2 + j by simp; omega]
      exact ih k j x h hj
theorem ky_all {xs : List (ByteArray × ByteArray)} {k : Nat} {x : ByteArray × ByteArray} (h : xs[k]? = some x) : (xs.take (k + 1)).all (fun p => keyB p.1 p.2) = ((xs.take k).all (fun p => keyB p.1 p.2) && keyB x.1 x.2) := by
  rw [List.take_add_one, h]
  simp

end Go.Proofs.Ytilcbdhcojgcbaa
/- What Verify answers: mathematics. -/
namespace Go.Proofs.Ytilcbdhcojgcbaa
open Go.RowKit
set_option linter.unusedVariables false

/-- A record of the type of signatures. -/
def vTs (r : Rm) : Bool := decide (r.ty = 250)
def strayB (m : Mm) : Bool := m.an.any vTs || (m.au.any vTs || m.ex.dropLast.any vTs)
/-- A record that is a signature, but for its type. -/
def datB (r : Rm) : Bool := decide (r.cl = 255) && (decide (r.ttl = 0) && (decide (r.dat.length = 61) && (decide ((r.dat.take 13).map Nm.low = algL) && (decide ((r.dat.drop 21).take 2 = [0, 32]) && decide (r.dat.drop 57 = [0, 0, 0, 0])))))
/-- The verdict. -/
structure Vd where
  code : Int
  signed : Bool
  key : Int
  sum : List UInt8
  body : List UInt8
def vd0 : Vd := ⟨32, false, 0, [], []⟩
def vdU (l : List UInt8) : Vd := ⟨0, false, -1, [], l⟩
/-- The message without its signature, which began at a place. -/
def bodyL (l : List UInt8) (r : Rm) (n q : Nat) : List UInt8 := (r.dat.drop 55).take 2 ++ (l.drop 2).take 8 ++ bigL (n - 1) 2 ++ (l.take q).drop 12
def keyAt (ks : List (ByteArray × ByteArray)) (o : ByteArray) : Option Nat := ks.findIdx? (fun k => sameS k.1 o)
def lateN (t f : Nat) (now : Int) : Bool := decide ((f : Int) < now - (t : Int)) || decide ((f : Int) < (t : Int) - now)
/-- The code of a signature by a key. -/
def codeV (k : ByteArray × ByteArray) (body d : List UInt8) (now : Int) (rq : ByteArray) : Int :=
  if sumL k.2.data.toList rq.data.toList body (Nm.foldS k.1).data.toList (sT d) (sF d) = sS d then (if lateN (sT d) (sF d) now then 31 else 0) else 30
def vdS (ks : List (ByteArray × ByteArray)) (r : Rm) (body : List UInt8) (now : Int) (rq : ByteArray) : Vd :=
  match keyAt ks ⟨r.owner.toArray⟩ with
  | none => ⟨29, true, -1, sS r.dat, body⟩
  | some i => ⟨codeV (ks.getD i (ByteArray.empty, ByteArray.empty)) body r.dat now rq, true, (i : Int), sS r.dat, body⟩
/-- Where the last record begins. -/
def lastP (l : List UInt8) : Nat := match manyS (quS l) (n16 l 4) 12 [] with
  | .inl _ => 0
  | .inr (_, p1) => match manyS (rrS l) (n16 l 6 + n16 l 8 + n16 l 10 - 1) p1 [] with
    | .inl _ => 0
    | .inr (_, q) => q
def vPre (ks : List (ByteArray × ByteArray)) (now : Int) (rq : ByteArray) : Bool := decide (ks.length ≤ 8) && (decide (0 ≤ now) && (decide (now ≤ 281474976710655) && (decide (rq.size ≤ 32) && ks.all (fun p => keyB p.1 p.2))))
/-- Of a message that was read. -/
def verM (l : List UInt8) (m : Mm) (ks : List (ByteArray × ByteArray)) (now : Int) (rq : ByteArray) : Vd :=
  if strayB m then vd0 else match m.ex.getLast? with
    | none => vdU l
    | some r => if vTs r then (if datB r then vdS ks r (bodyL l r m.ex.length (lastP l)) now rq else vd0) else vdU l
def verL (l : List UInt8) (ks : List (ByteArray × ByteArray)) (now : Int) (rq : ByteArray) : Vd :=
  match msgS l with
  | .inl _ => vd0
  | .inr (m, _) => if vPre ks now rq then verM l m ks now rq else vd0

theorem manyN_len {α : Type} (f : Nat → Rs α) : ∀ (n p : Nat) (acc : List α) {ys : List α} {q : Nat}, manyS f n p acc = .ok ys q → ys.length = acc.length + n := by
  intro n
  induction n with
  | zero => intro p acc ys q h; rw [manyS] at h; cases h; rfl
  | succ n ih =>
    intro p acc ys q h
    rw [manyS] at h
    cases hf : f p using Rs.elim with
    | bad c => rw [hf] at h; cases h
    | ok y r =>
      rw [hf] at h
      have := ih r _ h
      rw [this]
      simp
      omega
theorem msgS_lens {l : List UInt8} {m : Mm} {p : Nat} (h : msgS l = .ok m p) : m.an.length = n16 l 6 ∧ m.au.length = n16 l 8 ∧ m.ex.length = n16 l 10 ∧ 12 ≤ l.length ∧ l.length ≤ 65535 ∧ n16 l 4 + n16 l 6 + n16 l 8 + n16 l 10 ≤ 400 := by
  rw [msgS] at h
  split at h
  · cases h
  · split at h
    · cases h
    · split at h
      · cases h
      · rw [listsS] at h
        cases h1 : manyS (quS l) (n16 l 4) 12 [] using Rs.elim with
        | bad c => rw [h1] at h; cases h
        | ok qs p1 =>
          rw [h1] at h
          simp only at h
          cases h2 : manyS (rrS l) (n16 l 6) p1 [] using Rs.elim with
          | bad c => rw [h2] at h; cases h
          | ok an p2 =>
            rw [h2] at h
            simp only at h
            cases h3 : manyS (rrS l) (n16 l 8) p2 [] using Rs.elim with
            | bad c => rw [h3] at h; cases h
            | ok au p3 =>
              rw [h3] at h
              simp only at h
              cases h4 : manyS (rrS l) (n16 l 10) p3 [] using Rs.elim with
              | bad c => rw [h4] at h; cases h
              | ok ex p4 =>
                rw [h4] at h
                simp only at h
                split at h
                · cases h
                · cases h
                  have e2 := manyN_len _ _ _ _ h2
                  have e3 := manyN_len _ _ _ _ h3
                  have e4 := manyN_len _ _ _ _ h4
                  simp only [List.length_nil, Nat.zero_add] at e2 e3 e4
                  exact ⟨e2, e3, e4, by omega, by omega, by omega⟩
/-- The place that the model's reading tells. -/
theorem last_is {l : List UInt8} {m : Mm} {p : Nat} {n : Int} (h : msgS l = .ok m p) (hL : LastOK l m n) (hx : 0 < m.ex.length) : n = (lastP l : Int) ∧ ∃ (qs : List Qm) (P1 : Nat) (xs : List Rm), manyS (quS l) (n16 l 4) 12 [] = .ok qs P1 ∧ manyS (rrS l) (n16 l 6 + n16 l 8 + n16 l 10 - 1) P1 [] = .ok xs (lastP l) := by
  obtain ⟨e1, e2, e3, _⟩ := msgS_lens h
  obtain ⟨qs, P1, pos, hq, hI⟩ := hL
  have hlen : (allR m).length = n16 l 6 + n16 l 8 + n16 l 10 := by simp [allR]; omega
  obtain ⟨q, xs, rfl, hm⟩ := hI.2 (by omega)
  rw [hlen] at hm
  have : lastP l = q := by rw [lastP, hq]; simp only; rw [hm]
  rw [this]
  exact ⟨rfl, qs, P1, xs, hq, hm⟩

theorem any_step {α : Type} {p : α → Bool} {xs : List α} {k : Nat} {x : α} (h : xs[k]? = some x) : (xs.take (k + 1)).any p = ((xs.take k).any p || p x) := by
  rw [List.take_add_one, h]
  simp
theorem any_at {α : Type} {p : α → Bool} {xs : List α} {k : Nat} {x : α} (h : xs[k]? = some x) (hp : p x = true) : xs.any p = true := by
  rw [List.any_eq_true]
  exact ⟨x, List.mem_of_getElem? h, hp⟩
end Go.Proofs.Ytilcbdhcojgcbaa
