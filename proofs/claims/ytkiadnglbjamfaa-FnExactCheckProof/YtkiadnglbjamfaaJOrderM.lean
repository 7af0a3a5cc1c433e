import Derived.Test.YtkiadnglbjamfaaJMath
/- The order of names is one: mathematics. -/
namespace Go.Proofs.Ytkiadnglbjamfaa
open Go.RowKit

theorem cmpI_anti (a b : Int) : Nm.cmpI b a = - Nm.cmpI a b := by
  unfold Nm.cmpI
  split <;> split <;> first | omega | (split <;> omega) | skip
  all_goals simp_all <;> omega

theorem cmpI_range (a b : Int) : -1 ≤ Nm.cmpI a b ∧ Nm.cmpI a b ≤ 1 := by
  unfold Nm.cmpI
  split
  · omega
  · split <;> omega

theorem cmpI_le {a b : Int} (h : a ≠ b) : Nm.cmpI a b ≤ 0 ↔ a < b := by
  by_cases h1 : a < b
  · rw [Nm.cmpI_lt h1]; simp [h1]
  · rw [Nm.cmpI_gt (by omega)]; simp [h1]

theorem ordL_anti : ∀ (a b : List UInt8), Nm.ordL b a = - Nm.ordL a b
  | [], [] => rfl
  | [], y :: b => rfl
  | x :: a, [] => rfl
  | x :: a, y :: b => by
    by_cases h : x = y
    · subst h
      rw [Nm.ordL_same, Nm.ordL_same]
      exact ordL_anti a b
    · rw [Nm.ordL_ne a b h, Nm.ordL_ne b a (Ne.symm h)]
      exact cmpI_anti _ _

theorem ordL_range (a b : List UInt8) : -1 ≤ Nm.ordL a b ∧ Nm.ordL a b ≤ 1 := by
  unfold Nm.ordL
  split
  · omega
  · split <;> omega

theorem ordL_trans : ∀ (a b c : List UInt8), Nm.ordL a b ≤ 0 → Nm.ordL b c ≤ 0 → Nm.ordL a c ≤ 0
  | [], b, [], _, _ => by rw [Nm.ordL_nil]; decide
  | [], b, z :: c, _, _ => by rw [Nm.ordL_left]; decide
  | x :: a, [], c, h, _ => by rw [Nm.ordL_right] at h; omega
  | x :: a, y :: b, [], _, h => by rw [Nm.ordL_right] at h; omega
  | x :: a, y :: b, z :: c, h1, h2 => by
    have inj : ∀ {p q : UInt8}, p ≠ q → (p.toNat : Int) ≠ (q.toNat : Int) := fun h e => h (UInt8.toNat_inj.1 (by omega))
    by_cases hxy : x = y
    · subst hxy
      by_cases hyz : x = z
      · subst hyz
        rw [Nm.ordL_same] at h1 h2 ⊢
        exact ordL_trans a b c h1 h2
      · rw [Nm.ordL_ne _ _ hyz] at h2 ⊢
        exact h2
    · rw [Nm.ordL_ne _ _ hxy, cmpI_le (inj hxy)] at h1
      by_cases hyz : y = z
      · subst hyz
        rw [Nm.ordL_ne _ _ hxy, cmpI_le (inj hxy)]
        exact h1
      · rw [Nm.ordL_ne _ _ hyz, cmpI_le (inj hyz)] at h2
        have hxz : x ≠ z := fun e => by subst e; omega
        rw [Nm.ordL_ne _ _ hxz, cmpI_le (inj hxz)]
        omega

theorem ordS_anti (x y : ByteArray) : Nm.ordS y x = - Nm.ordS x y := ordL_anti _ _

theorem ordS_swap {x y : ByteArray} (h : Nm.ordS x y = 0) (z : ByteArray) : Nm.ordS x z = Nm.ordS y z ∧ Nm.ordS z x = Nm.ordS z y := by
  have e := (ordL_zero _ _).1 h
  unfold Nm.ordS
  rw [e]
  exact ⟨rfl, rfl⟩

theorem cmpRev_anti : ∀ (a b : List ByteArray), Nm.cmpRev b a = - Nm.cmpRev a b
  | [], [] => rfl
  | [], y :: b => rfl
  | x :: a, [] => rfl
  | x :: a, y :: b => by
    rw [Nm.cmpRev, Nm.cmpRev, ordS_anti x y]
    by_cases h : Nm.ordS x y = 0
    · rw [if_pos h, if_pos (by omega)]
      exact cmpRev_anti a b
    · rw [if_neg h, if_neg (by omega)]

theorem cmpRev_range : ∀ (a b : List ByteArray), -1 ≤ Nm.cmpRev a b ∧ Nm.cmpRev a b ≤ 1
  | [], [] => by rw [Nm.cmpRev]; decide
  | [], y :: b => by rw [Nm.cmpRev]; decide
  | x :: a, [] => by rw [Nm.cmpRev]; decide
  | x :: a, y :: b => by
    rw [Nm.cmpRev]
    split
    · exact cmpRev_range a b
    · exact ordL_range _ _

theorem cmpRev_trans : ∀ (a b c : List ByteArray), Nm.cmpRev a b ≤ 0 → Nm.cmpRev b c ≤ 0 → Nm.cmpRev a c ≤ 0
  | [], b, [], _, _ => by rw [Nm.cmpRev]; decide
  | [], b, z :: c, _, _ => by rw [Nm.cmpRev]; decide
  | x :: a, [], c, h, _ => by rw [Nm.cmpRev] at h; omega
  | x :: a, y :: b, [], _, h => by rw [Nm.cmpRev] at h; omega
  | x :: a, y :: b, z :: c, h1, h2 => by
    rw [Nm.cmpRev] at h1 h2 ⊢
    by_cases hxy : Nm.ordS x y = 0
    · rw [if_pos hxy] at h1
      rw [(ordS_swap hxy z).1]
      by_cases hyz : Nm.ordS y z = 0
      · rw [if_pos hyz] at h2 ⊢
        exact cmpRev_trans a b c h1 h2
      · rw [if_neg hyz] at h2 ⊢
        exact h2
    · rw [if_neg hxy] at h1
      by_cases hyz : Nm.ordS y z = 0
      · rw [← (ordS_swap hyz x).2, if_neg hxy]
        exact h1
      · rw [if_neg hyz] at h2
        have h3 : Nm.ordS x z ≤ 0 := ordL_trans _ _ _ h1 h2
        have hxz : Nm.ordS x z ≠ 0 := by
          intro e
          have e1 := (ordS_swap e y).1
          have e2 := ordS_anti y z
          omega
        rw [if_neg hxz]
        exact h3

theorem cmpLs_anti (a b : List ByteArray) : Nm.cmpLs b a = - Nm.cmpLs a b := cmpRev_anti _ _
theorem cmpLs_range (a b : List ByteArray) : -1 ≤ Nm.cmpLs a b ∧ Nm.cmpLs a b ≤ 1 := cmpRev_range _ _
theorem cmpLs_trans {a b c : List ByteArray} (h1 : Nm.cmpLs a b ≤ 0) (h2 : Nm.cmpLs b c ≤ 0) : Nm.cmpLs a c ≤ 0 := cmpRev_trans _ _ _ h1 h2
theorem cmpLs_trans' {a b c : List ByteArray} (h1 : 0 ≤ Nm.cmpLs a b) (h2 : 0 ≤ Nm.cmpLs b c) : 0 ≤ Nm.cmpLs a c := by
  have e1 := cmpLs_anti a b
  have e2 := cmpLs_anti b c
  have e3 := cmpLs_anti a c
  have := cmpLs_trans (a := c) (b := b) (c := a) (by omega) (by omega)
  omega

theorem cmpRev_snoc : ∀ (a : List ByteArray) (x : ByteArray), Nm.cmpRev a (a ++ [x]) = -1
  | [], x => rfl
  | y :: a, x => by
    have h0 : Nm.ordS y y = 0 := (ordL_zero _ _).2 rfl
    rw [List.cons_append, Nm.cmpRev, if_pos h0]
    exact cmpRev_snoc a x

theorem cmpLs_up (x : ByteArray) (t : List ByteArray) : Nm.cmpLs t (x :: t) = -1 := by
  unfold Nm.cmpLs
  rw [List.reverse_cons]
  exact cmpRev_snoc _ _

theorem under_up (x : ByteArray) (t : List ByteArray) : underB (x :: t) t = true ∧ underB t (x :: t) = false := by
  constructor
  · have e : (x :: t).drop ((x :: t).length - t.length) = t := by
      rw [show (x :: t).length - t.length = 1 by simp]
      rfl
    have h0 : Nm.cmpLs t t = 0 := (cmpLs_zero t t).2 rfl
    unfold underB
    rw [e, h0]
    simp
  · unfold underB
    rw [show decide ((x :: t).length ≤ t.length) = false by simp]
    rfl

theorem same_cmp {a b : ByteArray} {xs ys : List ByteArray} (ha : Nm.split a = some xs) (hb : Nm.split b = some ys) : sameS a b = decide (Nm.cmpLs xs ys = 0) := by
  have ja := Nm.split_join ha
  have wa := Nm.split_size ha
  have h1 := ord_join ja.2 (by omega) hb
  have ea : (⟨(Nm.joinL xs).toArray⟩ : ByteArray) = a := by
    apply ByteArray.ext
    apply Array.toList_inj.1
    simpa using ja.1
  rw [same_some ha hb]
  rw [ea] at h1
  simp only [h1]
end Go.Proofs.Ytkiadnglbjamfaa
/- The forms of data: mathematics. -/
namespace Go.Proofs.Ytkiadnglbjamfaa.Dt
open Go.RowKit

def alnumB (c : UInt8) : Bool := (decide (48 ≤ c.toNat) && decide (c.toNat ≤ 57)) || ((decide (97 ≤ c.toNat) && decide (c.toNat ≤ 122)) || (decide (65 ≤ c.toNat) && decide (c.toNat ≤ 90)))

/-- The short text at the beginning, with its length; empty: there is none. -/
def txtS (s : ByteArray) : ByteArray :=
  if h : 0 < s.size then (if s[0].toNat + 1 ≤ s.size then s.extract 0 (s[0].toNat + 1) else ByteArray.empty) else ByteArray.empty

/-- The name at the beginning, from 'at' on; empty: there is none. -/
def nameF : Nat → ByteArray → Nat → ByteArray
  | 0, _, _ => ByteArray.empty
  | f + 1, s, i =>
    if h : i < s.size ∧ i < 255 then
      if s[i].toNat = 0 then s.extract 0 (i + 1)
      else if 63 < s[i].toNat then ByteArray.empty
      else nameF f s (i + s[i].toNat + 1)
    else ByteArray.empty

def nameAtS (s : ByteArray) : ByteArray := nameF 256 s 0

theorem nameF_enough : ∀ (f g : Nat) (s : ByteArray) (i : Nat), 255 < f + i → 255 < g + i → nameF f s i = nameF g s i := by
  intro f
  induction f with
  | zero =>
    intro g s i hf hg
    cases g with
    | zero => rfl
    | succ g => rw [nameF, nameF, dif_neg (by omega)]
  | succ f ih =>
    intro g s i hf hg
    cases g with
    | zero => rw [nameF, nameF, dif_neg (by omega)]
    | succ g =>
      rw [nameF, nameF]
      by_cases h : i < s.size ∧ i < 255
      · rw [dif_pos h, dif_pos h, ih g s _ (by omega) (by omega)]
      · rw [dif_neg h, dif_neg h]

def formS (t : Int) : ByteArray :=
  if t = 1 then ⟨#[98, 98, 98, 98]⟩
  else if t = 2 ∨ t = 5 ∨ t = 12 ∨ t = 39 then ⟨#[110]⟩
  else if t = 6 then ⟨#[110, 110, 98, 98, 98, 98, 98, 98, 98, 98, 98, 98, 98, 98, 98, 98, 98, 98, 98, 98, 98, 98]⟩
  else if t = 13 then ⟨#[116, 116]⟩
  else if t = 15 then ⟨#[98, 98, 110]⟩
  else if t = 16 then ⟨#[115]⟩
  else if t = 28 then ⟨#[98, 98, 98, 98, 98, 98, 98, 98, 98, 98, 98, 98, 98, 98, 98, 98]⟩
  else if t = 33 then ⟨#[98, 98, 98, 98, 98, 98, 110]⟩
  else if t = 35 then ⟨#[98, 98, 98, 98, 116, 116, 116, 110]⟩
  else if t = 47 then ⟨#[110, 109]⟩
  else if t = 257 then ⟨#[98, 99]⟩
  else ⟨#[42]⟩
end Go.Proofs.Ytkiadnglbjamfaa.Dt
/- Type maps, as plain mathematics. -/
namespace Go.Proofs.Ytkiadnglbjamfaa
open Go.RowKit
set_option linter.unusedVariables false

/-- Whether it is a type map whose first window comes behind 'last'. -/
def mapF : Nat → Int → ByteArray → Bool
  | 0, _, _ => true
  | f + 1, last, s =>
    if s.size = 0 then true
    else if h : 2 ≤ s.size then
      if h2 : last < (s[0].toNat : Int) ∧ 1 ≤ s[1].toNat ∧ s[1].toNat ≤ 32 ∧ s[1].toNat + 2 ≤ s.size then
        if s[s[1].toNat + 1].toNat = 0 then false else mapF f (s[0].toNat : Int) (s.extract (s[1].toNat + 2) s.size)
      else false
    else false

theorem mapF_enough : ∀ (f g : Nat) (last : Int) (s : ByteArray), s.size < f → s.size < g → mapF f last s = mapF g last s := by
  intro f
  induction f with
  | zero => intro g last s hf; omega
  | succ f ih =>
    intro g last s hf hg
    cases g with
    | zero => omega
    | succ g =>
      rw [mapF, mapF]
      by_cases h0 : s.size = 0
      · rw [if_pos h0, if_pos h0]
      rw [if_neg h0, if_neg h0]
      by_cases h : 2 ≤ s.size
      · rw [dif_pos h, dif_pos h]
        by_cases h2 : last < (s[0].toNat : Int) ∧ 1 ≤ s[1].toNat ∧ s[1].toNat ≤ 32 ∧ s[1].toNat + 2 ≤ s.size
        · rw [dif_pos h2, dif_pos h2]
          by_cases h3 : s[s[1].toNat + 1].toNat = 0
          · rw [if_pos h3, if_pos h3]
          · rw [if_neg h3, if_neg h3]
            have he : (s.extract (s[1].toNat + 2) s.size).size = s.size - (s[1].toNat + 2) := by simp
            exact ih g _ _ (by omega) (by omega)
        · rw [dif_neg h2, dif_neg h2]
      · rw [dif_neg h, dif_neg h]

def mapS (s : ByteArray) : Bool := mapF (s.size + 1) (-1) s

theorem map_end {f : Nat} {last : Int} {s : ByteArray} (h : s.size = 0) : mapF (f + 1) last s = true := by rw [mapF, if_pos h]
theorem map_one {f : Nat} {last : Int} {s : ByteArray} (h : s.size = 1) : mapF (f + 1) last s = false := by rw [mapF, if_neg (by omega), dif_neg (by omega)]
theorem map_no {f : Nat} {last : Int} {s : ByteArray} (h : 2 ≤ s.size) (h2 : ¬ (last < (s[0].toNat : Int) ∧ 1 ≤ s[1].toNat ∧ s[1].toNat ≤ 32 ∧ s[1].toNat + 2 ≤ s.size)) : mapF (f + 1) last s = false := by
  rw [mapF, if_neg (by omega), dif_pos h, dif_neg h2]
theorem map_zero {f : Nat} {last : Int} {s : ByteArray} (h : 2 ≤ s.size) (h2 : last < (s[0].toNat : Int) ∧ 1 ≤ s[1].toNat ∧ s[1].toNat ≤ 32 ∧ s[1].toNat + 2 ≤ s.size) (h3 : (s[s[1].toNat + 1]'(by omega)).toNat = 0) : mapF (f + 1) last s = false := by
  rw [mapF, if_neg (by omega), dif_pos h, dif_pos h2, if_pos h3]
theorem map_step {last : Int} {s : ByteArray} (h : 2 ≤ s.size) (h2 : last < (s[0].toNat : Int) ∧ 1 ≤ s[1].toNat ∧ s[1].toNat ≤ 32 ∧ s[1].toNat + 2 ≤ s.size) (h3 : (s[s[1].toNat + 1]'(by omega)).toNat ≠ 0) :
    mapF (s.size + 1) last s = mapF ((s.extract (s[1].toNat + 2) s.size).size + 1) (s[0].toNat : Int) (s.extract (s[1].toNat + 2) s.size) := by
  rw [mapF, if_neg (by omega), dif_pos h, dif_pos h2, if_neg h3]
  have he : (s.extract (s[1].toNat + 2) s.size).size = s.size - (s[1].toNat + 2) := by simp
  exact mapF_enough _ _ _ _ (by omega) (by omega)

theorem not_empty {s : ByteArray} (h : 0 < s.size) : (s.toList == []) = false ∧ (s.toList != []) = true := by
  have : s.toList ≠ [] := by
    rw [ByteArray.toList_eq]
    intro e
    have h9 := congrArg List.length e
    rw [Array.length_toList] at h9
    have h8 : s.size = 0 := h9
    omega
  simp [this]

theorem ba_empty {s : ByteArray} (h : s.size = 0) : s = ⟨#[]⟩ := by
  apply ByteArray.ext
  exact Array.eq_empty_of_size_eq_zero h
theorem beq_empty {s : ByteArray} (h : s.size = 0) : (s.toList == []) = true ∧ (s.toList != []) = false := by
  have : s.toList = [] := List.length_eq_zero_iff.1 (by rw [Nm.tl_len]; exact h)
  simp [this]

end Go.Proofs.Ytkiadnglbjamfaa
/- The pieces of a form of data, as plain mathematics. -/
namespace Go.Proofs.Ytkiadnglbjamfaa.Dt
open Go.RowKit

/-- How many bytes of short texts stand behind one another at the beginning. -/
def txsF : Nat → ByteArray → Nat
  | 0, _ => 0
  | f + 1, d => if (txtS d).size = 0 then 0 else (txtS d).size + txsF f (d.extract (txtS d).size d.size)

theorem txt_le (d : ByteArray) : (txtS d).size ≤ d.size := by
  unfold txtS
  split
  · split
    · simp; omega
    · simp
  · simp

theorem txsF_enough : ∀ (f g : Nat) (d : ByteArray), d.size < f → d.size < g → txsF f d = txsF g d := by
  intro f
  induction f with
  | zero => intro g d hf; omega
  | succ f ih =>
    intro g d hf hg
    cases g with
    | zero => omega
    | succ g =>
      rw [txsF, txsF]
      by_cases h : (txtS d).size = 0
      · rw [if_pos h, if_pos h]
      · have := txt_le d
        rw [if_neg h, if_neg h, ih g _ (by simp; omega) (by simp; omega)]

def txsS (d : ByteArray) : Nat := txsF (d.size + 1) d

theorem txs_none {d : ByteArray} (h : (txtS d).size = 0) : txsS d = 0 := by rw [txsS, txsF, if_pos h]
theorem txs_step {d : ByteArray} (h : (txtS d).size ≠ 0) : txsS d = (txtS d).size + txsS (d.extract (txtS d).size d.size) := by
  have := txt_le d
  rw [txsS, txsF, if_neg h, txsF_enough _ ((d.extract (txtS d).size d.size).size + 1) _ (by simp; omega) (by simp)]
  rfl

theorem txsF_le : ∀ (f : Nat) (d : ByteArray), txsF f d ≤ d.size := by
  intro f
  induction f with
  | zero => intro d; simp [txsF]
  | succ f ih =>
    intro d
    rw [txsF]
    split
    · omega
    · have := ih (d.extract (txtS d).size d.size)
      have h2 := txt_le d
      simp at this
      omega
theorem txs_le (d : ByteArray) : txsS d ≤ d.size := txsF_le _ d

def tagB (d : ByteArray) : Bool := decide (2 ≤ (txtS d).size) && decide ((txtS d).size ≤ 16) && ((txtS d).data.toList.drop 1).all alnumB

/-- The pieces of a form: a name, so many bytes, a short text, short texts, short texts up to the end, a tag, a tag and the rest, a type map, the rest. -/
abbrev Pc : Type := Option (Option (Option (Option (Option (Option (Option (Option Nat)))))))
abbrev Pc.nm : Pc := none
abbrev Pc.tx : Pc := some none
abbrev Pc.txs : Pc := some (some none)
abbrev Pc.txe : Pc := some (some (some none))
abbrev Pc.tag : Pc := some (some (some (some none)))
abbrev Pc.tagr : Pc := some (some (some (some (some none))))
abbrev Pc.mp : Pc := some (some (some (some (some (some none)))))
abbrev Pc.rs : Pc := some (some (some (some (some (some (some none))))))
abbrev Pc.bs (n : Nat) : Pc := some (some (some (some (some (some (some (some n)))))))

theorem Pc.elim {P : Pc → Prop} (p : Pc) (nm : P Pc.nm) (bs : ∀ n, P (Pc.bs n)) (tx : P Pc.tx) (txs : P Pc.txs) (txe : P Pc.txe) (tag : P Pc.tag) (tagr : P Pc.tagr) (mp : P Pc.mp) (rs : P Pc.rs) : P p := by
  rcases p with _ | _ | _ | _ | _ | _ | _ | _ | n
  · exact nm
  · exact tx
  · exact txs
  · exact txe
  · exact tag
  · exact tagr
  · exact mp
  · exact rs
  · exact bs n

def Pc.isN : Pc → Bool
  | none => true
  | some _ => false

/-- How many bytes the piece has that stands at the beginning; none: it does not stand there. -/
def sz : Pc → ByteArray → Option Nat
  | none, d => if (nameAtS d).size = 0 then none else some (nameAtS d).size
  | some none, d => if (txtS d).size = 0 then none else some (txtS d).size
  | some (some none), d => if txsS d = 0 then none else some (txsS d)
  | some (some (some none)), d => if txsS d = 0 ∨ txsS d ≠ d.size then none else some d.size
  | some (some (some (some none))), d => if tagB d then some (txtS d).size else none
  | some (some (some (some (some none)))), d => if tagB d then some d.size else none
  | some (some (some (some (some (some none))))), d => if mapS d then some d.size else none
  | some (some (some (some (some (some (some none)))))), d => some d.size
  | some (some (some (some (some (some (some (some n))))))), d => if n ≤ d.size then some n else none

theorem nameF_le : ∀ (f : Nat) (s : ByteArray) (i : Nat), (nameF f s i).size ≤ s.size := by
  intro f
  induction f with
  | zero => intro s i; simp [nameF]
  | succ f ih =>
    intro s i
    rw [nameF]
    split
    · split
      · simp; omega
      · split
        · simp
        · exact ih _ _
    · simp
theorem name_le (s : ByteArray) : (nameAtS s).size ≤ s.size := nameF_le _ _ _

theorem sz_le {p : Pc} {d : ByteArray} {n : Nat} (h : sz p d = some n) : n ≤ d.size := by
  have h1 := name_le d
  have h2 := txt_le d
  have h3 := txs_le d
  cases p using Pc.elim <;> simp only [sz] at h
  all_goals first
    | (split at h
       · simp at h
       · simp at h; omega)
    | (split at h
       · simp at h; omega
       · simp at h)
    | (simp at h; omega)

/-- The parts of data, by a form; none: it has not the form. -/
def parts : List Pc → ByteArray → Option (List ByteArray)
  | [], d => if d.size = 0 then some [] else none
  | p :: r, d =>
    match sz p d with
    | none => none
    | some n => (parts r (d.extract n d.size)).map (fun l => d.extract 0 n :: l)

/-- Where the names stand in data whose first byte is the a-th. -/
def spans : List Pc → Nat → ByteArray → Option (List (Nat × Nat))
  | [], _, d => if d.size = 0 then some [] else none
  | p :: r, a, d =>
    match sz p d with
    | none => none
    | some n => (spans r (a + n) (d.extract n d.size)).map (fun l => if p.isN then (a, a + n) :: l else l)

def spansOf : List Pc → List ByteArray → Nat → List (Nat × Nat)
  | p :: r, x :: xs, a => if p.isN then (a, a + x.size) :: spansOf r xs (a + x.size) else spansOf r xs (a + x.size)
  | _, _, _ => []

theorem spans_of_parts : ∀ (fs : List Pc) (d : ByteArray) (a : Nat), spans fs a d = (parts fs d).map (fun ps => spansOf fs ps a) := by
  intro fs
  induction fs with
  | nil => intro d a; rw [spans, parts]; split <;> simp [spansOf]
  | cons p r ih =>
    intro d a
    rw [spans, parts]
    cases h : sz p d with
    | none => simp
    | some n =>
      have hn := sz_le h
      simp only [ih]
      cases parts r (d.extract n d.size) with
      | none => simp
      | some l =>
        have : (d.extract 0 n).size = n := by simp; omega
        simp [spansOf, this]

theorem spans_bs (m n : Nat) (r : List Pc) (a : Nat) (d : ByteArray) : spans (.bs m :: .bs n :: r) a d = spans (.bs (m + n) :: r) a d := by
  rw [spans, spans]
  simp only [sz]
  by_cases h : m ≤ d.size
  · rw [if_pos h]
    simp only [spans, sz]
    have e : (d.extract m d.size).size = d.size - m := by simp
    rw [e]
    by_cases h2 : m + n ≤ d.size
    · rw [if_pos (by omega), if_pos h2]
      have e2 : (d.extract m d.size).extract n (d.size - m) = d.extract (m + n) d.size := by
        rw [ByteArray.extract_extract]
        congr 1
        omega
      simp only [e2, Pc.isN, Nat.add_assoc]
      simp
    · rw [if_neg (by omega), if_neg h2]; simp
  · rw [if_neg h, if_neg (by omega)]

theorem spans_tag (a : Nat) (d : ByteArray) : spans [.tagr] a d = spans [.tag, .rs] a d := by
  have h2 := txt_le d
  simp only [spans, sz]
  by_cases h : tagB d
  · simp [h, Pc.isN]
  · simp [h]

theorem spans_txs (a : Nat) (d : ByteArray) : spans [.txs] a d = spans [.txe] a d := by
  have h3 := txs_le d
  simp only [spans, sz]
  by_cases h : txsS d = 0
  · simp [h]
  · by_cases h2 : txsS d = d.size
    · have h4 : d.size ≠ 0 := by omega
      simp [h2, h4, Pc.isN]
    · simp [h, h2]
      omega

/-- A form's letter as a piece. -/
def letP (c : UInt8) : Pc :=
  if c = 110 then .nm else if c = 98 then .bs 1 else if c = 116 then .tx else if c = 115 then .txs else if c = 99 then .tagr else if c = 109 then .mp else .rs

def specP (t : Int) : List Pc := (formS t).data.toList.map letP

def implP (t : Int) : List Pc :=
  if t = 1 then [.bs 4]
  else if t = 28 then [.bs 16]
  else if t = 2 ∨ t = 5 ∨ t = 12 ∨ t = 39 then [.nm]
  else if t = 15 then [.bs 2, .nm]
  else if t = 6 then [.nm, .nm, .bs 20]
  else if t = 33 then [.bs 6, .nm]
  else if t = 16 then [.txe]
  else if t = 13 then [.tx, .tx]
  else if t = 35 then [.bs 4, .tx, .tx, .tx, .nm]
  else if t = 257 then [.bs 1, .tag, .rs]
  else if t = 47 then [.nm, .mp]
  else [.rs]

theorem spans_cons {p : Pc} {r r' : List Pc} (h : ∀ a d, spans r a d = spans r' a d) (a : Nat) (d : ByteArray) : spans (p :: r) a d = spans (p :: r') a d := by
  rw [spans, spans]
  cases sz p d with
  | none => rfl
  | some n => simp only [h]

theorem forms_agree (t : Int) (a : Nat) (d : ByteArray) : spans (specP t) a d = spans (implP t) a d := by
  unfold specP implP formS
  by_cases h1 : t = 1
  · subst h1; simp [letP, spans_bs]
  by_cases h2 : t = 2 ∨ t = 5 ∨ t = 12 ∨ t = 39
  · have : t ≠ 28 := by omega
    simp [h1, h2, this, letP]
  by_cases h3 : t = 6
  · subst h3
    simp [letP]
    refine spans_cons (fun a d => ?_) a d
    refine spans_cons (fun a d => ?_) a d
    simp [spans_bs]
  by_cases h4 : t = 13
  · subst h4; simp [letP]
  by_cases h5 : t = 15
  · subst h5; simp [letP, spans_bs]
  by_cases h6 : t = 16
  · subst h6; simp [letP, spans_txs]
  by_cases h7 : t = 28
  · subst h7; simp [letP, spans_bs]
  by_cases h8 : t = 33
  · subst h8; simp [letP, spans_bs]
  by_cases h9 : t = 35
  · subst h9; simp [letP, spans_bs]
  by_cases h10 : t = 47
  · subst h10; simp [letP]
  by_cases h11 : t = 257
  · subst h11
    simp [letP]
    exact spans_cons (fun a d => spans_tag a d) a d
  simp [h1, h2, h3, h4, h5, h6, h7, h8, h9, h10, h11, letP]
end Go.Proofs.Ytkiadnglbjamfaa.Dt
