import Derived.Test.YtkiadnglbjamfaaJOrderM
import Derived.Test.YtkiadnglbjamfaaJGoodM
import Derived.Test.YtkiadnglbjamfaaJCRow
import Derived.Test.YtkiadnglbjamfaaBlocks
import Derived.Test.YtkiadnglbjamfaaJMath
import Derived.Test.YtkiadnglbjamfaaRows
import Derived.WalkSpells
import Derived.WalkLawsBesides
/- What NSEC records prove: mathematics. -/
namespace Go.Proofs.Ytkiadnglbjamfaa
open Go.RowKit
set_option linter.unusedVariables false

/-- An NSEC record read: the labels of its owner and of the next name, and the types. -/
structure Lk where
  ow : List ByteArray
  nx : List ByteArray
  ty : List Int

def hasB (ty : List Int) (t : Int) : Bool := ty.any (fun x => decide (t = x))
def strB (a b : List ByteArray) : Bool := decide (b.length < a.length) && underB a b
def atB (l : Lk) (x : List ByteArray) : Bool := decide (Nm.cmpLs l.ow x = 0)
def cutB (l : Lk) : Bool := hasB l.ty 2 && !hasB l.ty 6
def useB (l : Lk) (x : List ByteArray) : Bool := if strB x l.ow then !cutB l && !hasB l.ty 39 else if atB l x then !cutB l else true
def covB (l : Lk) (x : List ByteArray) : Bool := decide (Nm.cmpLs l.ow x < 0) && (decide (Nm.cmpLs x l.nx < 0) || decide (Nm.cmpLs l.nx l.ow ≤ 0))

theorem cmp_len {a b : List ByteArray} (h : Nm.cmpLs a b = 0) : a.length = b.length := by
  have := (cmpLs_zero a b).1 h
  have := congrArg List.length this
  simpa using this
theorem under_len {a b : List ByteArray} (h : underB a b = true) : b.length ≤ a.length := by
  simp only [underB, Bool.and_eq_true, decide_eq_true_eq] at h
  exact h.1
theorem under_same_len {a b : List ByteArray} (h : underB a b = true) (hl : a.length = b.length) : Nm.cmpLs a b = 0 := by
  simp only [underB, Bool.and_eq_true, decide_eq_true_eq] at h
  have := h.2
  rw [hl, Nat.sub_self, List.drop_zero] at this
  exact this
theorem under_of_same {a b : List ByteArray} (h : Nm.cmpLs a b = 0) : underB a b = true := by
  have hl := cmp_len h
  simp only [underB, Bool.and_eq_true, decide_eq_true_eq]
  refine ⟨by omega, ?_⟩
  rw [hl, Nat.sub_self, List.drop_zero]
  exact h
theorem cmp_swap {a b : List ByteArray} : Nm.cmpLs a b = 0 ↔ Nm.cmpLs b a = 0 := by
  rw [cmpLs_anti b a]
  omega

/-- Strictly under: under, and not the same. -/
theorem str_eq (a b : List ByteArray) : strB a b = (underB a b && !decide (Nm.cmpLs a b = 0)) := by
  rw [strB]
  cases hu : underB a b with
  | false => simp
  | true =>
    have h1 := under_len hu
    simp only [Bool.true_and, Bool.and_true]
    by_cases h : Nm.cmpLs a b = 0
    · have := cmp_len h
      simp [h]
      omega
    · have : a.length ≠ b.length := fun hl => h (under_same_len hu hl)
      simp [h]
      omega

/-- Of use, as the model says it. -/
theorem use_eq (l : Lk) (x : List ByteArray) : useB l x = if atB l x then (!hasB l.ty 2 || hasB l.ty 6) else if !underB x l.ow then true else (!hasB l.ty 2 || hasB l.ty 6) && !hasB l.ty 39 := by
  rw [useB, str_eq, atB, cutB]
  by_cases h : Nm.cmpLs l.ow x = 0
  · have h2 := cmp_swap.1 h
    simp [h, h2]
  · have h2 : ¬ Nm.cmpLs x l.ow = 0 := fun e => h (cmp_swap.1 e)
    cases underB x l.ow <;> simp [h, h2]

def pickB (ls : List Lk) (x : List ByteArray) (f : Lk → List ByteArray → Bool) : Option Lk := ls.find? fun l => useB l x && f l x
def saysC (ls : List Lk) (x : List ByteArray) (q : Int) : Int :=
  match pickB ls x atB with
  | some o => if hasB o.ty q || hasB o.ty 5 then 0 else 1
  | none => match pickB ls x covB with
    | none => 0
    | some c => if strB c.nx x then 1 else 2
/-- The longest ancestor that is there. -/
def nearB (l : Lk) : List ByteArray → List ByteArray
  | [] => []
  | a :: t => if underB l.ow (a :: t) || underB l.nx (a :: t) then a :: t else nearB l t
def starL : ByteArray := ⟨#[42]⟩
def checkC (ls : List Lk) (x : List ByteArray) (q : Int) : Int :=
  if saysC ls x q = 2 then (match pickB ls x covB with
    | some c => saysC ls (starL :: nearB c (x.drop 1)) q
    | none => 0) else saysC ls x q

def bitsOf (d : ByteArray) : ByteArray := d.extract (Dt.nameAtS d).size d.size
def tysOf (b : ByteArray) : List Int := mapL (mapS b) (typesOf (blocksS b))
/-- A record of a proof, read. -/
def goodR (ax : List ByteArray) (r : Rr) : Option Lk :=
  if r.ty = 47 ∧ r.cl = 1 ∧ cutCode 47 r.da = 0 then
    match Nm.split r.own, Nm.split (Dt.nameAtS r.da) with
    | some ow, some nx => if underB ow ax && underB nx ax then some ⟨ow, nx, tysOf (bitsOf r.da)⟩ else none
    | _, _ => none
  else none
def openL (ax : List ByteArray) : List Rr → Option (List Lk)
  | [] => some []
  | r :: rs => match goodR ax r, openL ax rs with
    | some l, some ls => some (l :: ls)
    | _, _ => none
theorem openL_snoc (ax : List ByteArray) : ∀ (rs : List Rr) (r : Rr) (ls : List Lk), openL ax rs = some ls → openL ax (rs ++ [r]) = (goodR ax r).map (fun l => ls ++ [l]) := by
  intro rs
  induction rs with
  | nil =>
    intro r ls h
    simp only [openL, Option.some.injEq] at h
    subst h
    show openL ax [r] = _
    rw [openL]
    cases goodR ax r <;> simp [openL]
  | cons a rs ih =>
    intro r ls h
    rw [openL] at h
    cases hg : goodR ax a with
    | none => rw [hg] at h; simp at h
    | some l =>
      rw [hg] at h
      cases ho : openL ax rs with
      | none => rw [ho] at h; simp at h
      | some ls' =>
        rw [ho] at h
        simp only [Option.some.injEq] at h
        subst h
        rw [List.cons_append, openL, hg, ih r ls' ho]
        cases goodR ax r <;> simp
theorem openL_bad (ax : List ByteArray) : ∀ (a b : List Rr), openL ax a = none → openL ax (a ++ b) = none := by
  intro a
  induction a with
  | nil => intro b h; simp [openL] at h
  | cons r a ih =>
    intro b h
    rw [List.cons_append, openL]
    rw [openL] at h
    cases hg : goodR ax r with
    | none => simp
    | some l =>
      rw [hg] at h
      cases ho : openL ax a with
      | none => rw [ih b ho]
      | some ls => rw [ho] at h; simp at h
theorem openL_len (ax : List ByteArray) : ∀ (rs : List Rr) (ls : List Lk), openL ax rs = some ls → ls.length = rs.length := by
  intro rs
  induction rs with
  | nil => intro ls h; simp only [openL, Option.some.injEq] at h; subst h; rfl
  | cons a rs ih =>
    intro ls h
    rw [openL] at h
    cases hg : goodR ax a with
    | none => rw [hg] at h; simp at h
    | some l =>
      rw [hg] at h
      cases ho : openL ax rs with
      | none => rw [ho] at h; simp at h
      | some ls' =>
        rw [ho] at h
        simp only [Option.some.injEq] at h
        subst h
        simp [ih ls' ho]

def proofS (apex name : ByteArray) (q : Int) (rs : List Rr) : Int :=
  match Nm.split apex, Nm.split name with
  | some ax, some x => if underB x ax && decide (0 < q ∧ q ≤ 65535 ∧ q ≠ 255) && decide (rs.length ≤ 20) then (match openL ax rs with
    | some ls => checkC ls x q
    | none => 0) else 0
  | _, _ => 0

/-- The link of a record that is good. -/
theorem goodR_some {ax : List ByteArray} {r : Rr} {l : Lk} (h : goodR ax r = some l) : r.ty = 47 ∧ r.cl = 1 ∧ cutCode 47 r.da = 0 ∧ Nm.split r.own = some l.ow ∧ Nm.split (Dt.nameAtS r.da) = some l.nx ∧ l.ty = tysOf (bitsOf r.da) ∧ underB l.ow ax = true ∧ underB l.nx ax = true := by
  rw [goodR] at h
  split at h
  · rename_i hc
    cases ho : Nm.split r.own with
    | none => rw [ho] at h; simp at h
    | some ow =>
      cases hn : Nm.split (Dt.nameAtS r.da) with
      | none => rw [ho, hn] at h; simp at h
      | some nx =>
        rw [ho, hn] at h
        simp only at h
        split at h
        · rename_i hu
          simp only [Option.some.injEq] at h
          subst h
          simp only [Bool.and_eq_true] at hu
          refine ⟨hc.1, hc.2.1, hc.2.2, ?_, ?_, ?_, hu.1, hu.2⟩ <;> simp only
        · cases h
  · cases h
end Go.Proofs.Ytkiadnglbjamfaa
/- impl.foldByte by its contract. -/
namespace Go.Proofs.Ytkiadnglbjamfaa
open Go.RowKit

theorem ret_u8 {a b : Int} (h : a = b) : Ending.returned (.int .u8 a) = .returned (.int .u8 b) := by rw [h]

set_option maxRecDepth 100000 in
set_option maxHeartbeats 400000 in
theorem foldByte_any (c : UInt8) (w : World) :
    Calls Try.prog 61 #[.int .u8 c.toNat] w fun e w' => e = .returned (.int .u8 (Nm.low c).toNat) ∧ w' = w := by
  have hcl : (c.toNat : Int) < 256 := by have := c.toNat_lt; omega
  by_cases hup : 65 ≤ c.toNat ∧ c.toNat ≤ 90
  · have HL := Nm.hide (Nm.low_up hup)
    have d1 : decide ((65 : Int) ≤ (c.toNat : Int)) = true := by simp; omega
    have d2 : decide ((c.toNat : Int) ≤ 90) = true := by simp; omega
    have hb1 : (c.toNat : Int) ≤ 90 := by omega
    clear hup
    go_enter Try.func61, Try.ntmps61
    go_wp2
    go_ret
    rw [HL.out]
    exact ⟨rfl, rfl⟩
  · have HL := Nm.hide (Nm.low_id hup)
    by_cases hlo : 65 ≤ c.toNat
    · have d1 : decide ((65 : Int) ≤ (c.toNat : Int)) = true := by simp; omega
      have d2 : decide ((c.toNat : Int) ≤ 90) = false := by simp; omega
      clear hup
      go_enter Try.func61, Try.ntmps61
      go_wp2
      go_ret
      rw [HL.out]
      exact ⟨rfl, rfl⟩
    · have d1 : decide ((65 : Int) ≤ (c.toNat : Int)) = false := by simp; omega
      clear hup
      go_enter Try.func61, Try.ntmps61
      go_wp2
      go_ret
      rw [HL.out]
      exact ⟨rfl, rfl⟩

end Go.Proofs.Ytkiadnglbjamfaa
