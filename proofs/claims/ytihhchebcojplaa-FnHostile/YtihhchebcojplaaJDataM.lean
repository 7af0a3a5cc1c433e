import Derived.Test.YtihhchebcojplaaJMath
import Derived.Lib.AppendStr
/- The forms of data: mathematics. -/
namespace Go.Proofs.Ytihhchebcojplaa.Dt
open Go.RowKit

def alnumB (c : UInt8) : Bool := (decide (48 ≤ c.toNat) && decide (c.toNat ≤ 57)) || ((decide (97 ≤ c.toNat) && decide (c.toNat ≤ 122)) || (decide (65 ≤ c.toNat) && decide (c.toNat ≤ 90)))

/-- The short text at the beginning, with its length; empty: there is none. -/
def txtS (s : ByteArray) : ByteArray :=
  if h : 0 < s.size then (if s[0].toNat + 1 ≤ s.size then s.extract 0 (s[0].toNat + 1) else ByteArray.empty) else ByteArray.empty

/-- The name at the beginning, from 'at' on; empty: there is none. -/
def nameF : Nat → ByteArray → Nat → ByteArray
  | 0, _, _ => ByteArray.empty
  | f + 1, s, i =>
    if h : i < s.size ∧ i < 255 then
      if s[i].toNat = 0 then s.extract 0 (i + 1)
      else if 63 < s[i].toNat then ByteArray.empty
      else nameF f s (i + s[i].toNat + 1)
    else ByteArray.empty

def nameAtS (s : ByteArray) : ByteArray := nameF 256 s 0

theorem nameF_enough : ∀ (f g : Nat) (s : ByteArray) (i : Nat), 255 < f + i → 255 < g + i → nameF f s i = nameF g s i := by
  intro f
  induction f with
  | zero =>
    intro g s i hf hg
    cases g with
    | zero => rfl
    | succ g => rw [nameF, nameF, dif_neg (by omega)]
  | succ f ih =>
    intro g s i hf hg
    cases g with
    | zero => rw [nameF, nameF, dif_neg (by omega)]
    | succ g =>
      rw [nameF, nameF]
      by_cases h : i < s.size ∧ i < 255
      · rw [dif_pos h, dif_pos h, ih g s _ (by omega) (by omega)]
      · rw [dif_neg h, dif_neg h]

def formS (t : Int) : ByteArray :=
  if t = 1 then ⟨#[98, 98, 98, 98]⟩
  else if t = 2 ∨ t = 5 ∨ t = 12 ∨ t = 39 then ⟨#[110]⟩
  else if t = 6 then ⟨#[110, 110, 98, 98, 98, 98, 98, 98, 98, 98, 98, 98, 98, 98, 98, 98, 98, 98, 98, 98, 98, 98]⟩
  else if t = 13 then ⟨#[116, 116]⟩
  else if t = 15 then ⟨#[98, 98, 110]⟩
  else if t = 16 then ⟨#[115]⟩
  else if t = 28 then ⟨#[98, 98, 98, 98, 98, 98, 98, 98, 98, 98, 98, 98, 98, 98, 98, 98]⟩
  else if t = 33 then ⟨#[98, 98, 98, 98, 98, 98, 110]⟩
  else if t = 35 then ⟨#[98, 98, 98, 98, 116, 116, 116, 110]⟩
  else if t = 47 then ⟨#[110, 109]⟩
  else if t = 257 then ⟨#[98, 99]⟩
  else ⟨#[42]⟩
end Go.Proofs.Ytihhchebcojplaa.Dt
/- Type maps, as plain mathematics. -/
namespace Go.Proofs.Ytihhchebcojplaa
open Go.RowKit
set_option linter.unusedVariables false

/-- Whether it is a type map whose first window comes behind 'last'. -/
def mapF : Nat → Int → ByteArray → Bool
  | 0, _, _ => true
  | f + 1, last, s =>
    if s.size = 0 then true
    else if h : 2 ≤ s.size then
      if h2 : last < (s[0].toNat : Int) ∧ 1 ≤ s[1].toNat ∧ s[1].toNat ≤ 32 ∧ s[1].toNat + 2 ≤ s.size then
        if s[s[1].toNat + 1].toNat = 0 then false else mapF f (s[0].toNat : Int) (s.extract (s[1].toNat + 2) s.size)
      else false
    else false

theorem mapF_enough : ∀ (f g : Nat) (last : Int) (s : ByteArray), s.size < f → s.size < g → mapF f last s = mapF g last s := by
  intro f
  induction f with
  | zero => intro g last s hf; omega
  | succ f ih =>
    intro g last s hf hg
    cases g with
    | zero => omega
    | succ g =>
      rw [mapF, mapF]
      by_cases h0 : s.size = 0
      · rw [if_pos h0, if_pos h0]
      rw [if_neg h0, if_neg h0]
      by_cases h : 2 ≤ s.size
      · rw [dif_pos h, dif_pos h]
        by_cases h2 : last < (s[0].toNat : Int) ∧ 1 ≤ s[1].toNat ∧ s[1].toNat ≤ 32 ∧ s[1].toNat + 2 ≤ s.size
        · rw [dif_pos h2, dif_pos h2]
          by_cases h3 : s[s[1].toNat + 1].toNat = 0
          · rw [if_pos h3, if_pos h3]
          · rw [if_neg h3, if_neg h3]
            have he : (s.extract (s[1].toNat + 2) s.size).size = s.size - (s[1].toNat + 2) := by simp
            exact ih g _ _ (by omega) (by omega)
        · rw [dif_neg h2, dif_neg h2]
      · rw [dif_neg h, dif_neg h]

def mapS (s : ByteArray) : Bool := mapF (s.size + 1) (-1) s

theorem map_end {f : Nat} {last : Int} {s : ByteArray} (h : s.size = 0) : mapF (f + 1) last s = true := by rw [mapF, if_pos h]
theorem map_one {f : Nat} {last : Int} {s : ByteArray} (h : s.size = 1) : mapF (f + 1) last s = false := by rw [mapF, if_neg (by omega), dif_neg (by omega)]
theorem map_no {f : Nat} {last : Int} {s : ByteArray} (h : 2 ≤ s.size) (h2 : ¬ (last < (s[0].toNat : Int) ∧ 1 ≤ s[1].toNat ∧ s[1].toNat ≤ 32 ∧ s[1].toNat + 2 ≤ s.size)) : mapF (f + 1) last s = false := by
  rw [mapF, if_neg (by omega), dif_pos h, dif_neg h2]
theorem map_zero {f : Nat} {last : Int} {s : ByteArray} (h : 2 ≤ s.size) (h2 : last < (s[0].toNat : Int) ∧ 1 ≤ s[1].toNat ∧ s[1].toNat ≤ 32 ∧ s[1].toNat + 2 ≤ s.size) (h3 : (s[s[1].toNat + 1]'(by omega)).toNat = 0) : mapF (f + 1) last s = false := by
  rw [mapF, if_neg (by omega), dif_pos h, dif_pos h2, if_pos h3]
theorem map_step {last : Int} {s : ByteArray} (h : 2 ≤ s.size) (h2 : last < (s[0].toNat : Int) ∧ 1 ≤ s[1].toNat ∧ s[1].toNat ≤ 32 ∧ s[1].toNat + 2 ≤ s.size) (h3 : (s[s[1].toNat + 1]'(by omega)).toNat ≠ 0) :
    mapF (s.size + 1) last s = mapF ((s.extract (s[1].toNat + 2) s.size).size + 1) (s[0].toNat : Int) (s.extract (s[1].toNat + 2) s.size) := by
  rw [mapF, if_neg (by omega), dif_pos h, dif_pos h2, if_neg h3]
  have he : (s.extract (s[1].toNat + 2) s.size).size = s.size - (s[1].toNat + 2) := by simp
  exact mapF_enough _ _ _ _ (by omega) (by omega)

theorem not_empty {s : ByteArray} (h : 0 < s.size) : (s.toList == []) = false ∧ (s.toList != []) = true := by
  have : s.toList ≠ [] := by
    rw [ByteArray.toList_eq]
    intro e
    have h9 := congrArg List.length e
    rw [Array.length_toList] at h9
    have h8 : s.size = 0 := h9
    omega
  simp [this]

theorem ba_empty {s : ByteArray} (h : s.size = 0) : s = ⟨#[]⟩ := by
  apply ByteArray.ext
  exact Array.eq_empty_of_size_eq_zero h
theorem beq_empty {s : ByteArray} (h : s.size = 0) : (s.toList == []) = true ∧ (s.toList != []) = false := by
  have : s.toList = [] := List.length_eq_zero_iff.1 (by rw [Nm.tl_len]; exact h)
  simp [this]

end Go.Proofs.Ytihhchebcojplaa
/- The pieces of a form of data, as plain mathematics. -/
namespace Go.Proofs.Ytihhchebcojplaa.Dt
open Go.RowKit

/-- How many bytes of short texts stand behind one another at the beginning. -/
def txsF : Nat → ByteArray → Nat
  | 0, _ => 0
  | f + 1, d => if (txtS d).size = 0 then 0 else (txtS d).size + txsF f (d.extract (txtS d).size d.size)

theorem txt_le (d : ByteArray) : (txtS d).size ≤ d.size := by
  unfold txtS
  split
  · split
    · simp; omega
    · simp
  · simp

theorem txsF_enough : ∀ (f g : Nat) (d : ByteArray), d.size < f → d.size < g → txsF f d = txsF g d := by
  intro f
  induction f with
  | zero => intro g d hf; omega
  | succ f ih =>
    intro g d hf hg
    cases g with
    | zero => omega
    | succ g =>
      rw [txsF, txsF]
      by_cases h : (txtS d).size = 0
      · rw [if_pos h, if_pos h]
      · have := txt_le d
        rw [if_neg h, if_neg h, ih g _ (by simp; omega) (by simp; omega)]

def txsS (d : ByteArray) : Nat := txsF (d.size + 1) d

theorem txs_none {d : ByteArray} (h : (txtS d).size = 0) : txsS d = 0 := by rw [txsS, txsF, if_pos h]
theorem txs_step {d : ByteArray} (h : (txtS d).size ≠ 0) : txsS d = (txtS d).size + txsS (d.extract (txtS d).size d.size) := by
  have := txt_le d
  rw [txsS, txsF, if_neg h, txsF_enough _ ((d.extract (txtS d).size d.size).size + 1) _ (by simp; omega) (by simp)]
  rfl

theorem txsF_le : ∀ (f : Nat) (d : ByteArray), txsF f d ≤ d.size := by
  intro f
  induction f with
  | zero => intro d; simp [txsF]
  | succ f ih =>
    intro d
    rw [txsF]
    split
    · omega
    · have := ih (d.extract (txtS d).size d.size)
      have h2 := txt_le d
      simp at this
      omega
theorem txs_le (d : ByteArray) : txsS d ≤ d.size := txsF_le _ d

def tagB (d : ByteArray) : Bool := decide (2 ≤ (txtS d).size) && decide ((txtS d).size ≤ 16) && ((txtS d).data.toList.drop 1).all alnumB

/-- The pieces of a form: a name, so many bytes, a short text, short texts, short texts up to the end, a tag, a tag and the rest, a type map, the rest. -/
abbrev Pc : Type := Option (Option (Option (Option (Option (Option (Option (Option Nat)))))))
abbrev Pc.nm : Pc := none
abbrev Pc.tx : Pc := some none
abbrev Pc.txs : Pc := some (some none)
abbrev Pc.txe : Pc := some (some (some none))
abbrev Pc.tag : Pc := some (some (some (some none)))
abbrev Pc.tagr : Pc := some (some (some (some (some none))))
abbrev Pc.mp : Pc := some (some (some (some (some (some none)))))
abbrev Pc.rs : Pc := some (some (some (some (some (some (some none))))))
abbrev Pc.bs (n : Nat) : Pc := some (some (some (some (some (some (some (some n)))))))

theorem Pc.elim {P : Pc → Prop} (p : Pc) (nm : P Pc.nm) (bs : ∀ n, P (Pc.bs n)) (tx : P Pc.tx) (txs : P Pc.txs) (txe : P Pc.txe) (tag : P Pc.tag) (tagr : P Pc.tagr) (mp : P Pc.mp) (rs : P Pc.rs) : P p := by
  rcases p with _ | _ | _ | _ | _ | _ | _ | _ | n
  · exact nm
  · exact tx
  · exact txs
  · exact txe
  · exact tag
  · exact tagr
  · exact mp
  · exact rs
  · exact bs n

def Pc.isN : Pc → Bool
  | none => true
  | some _ => false

/-- How many bytes the piece has that stands at the beginning; none: it does not stand there. -/
def sz : Pc → ByteArray → Option Nat
  | none, d => if (nameAtS d).size = 0 then none else some (nameAtS d).size
  | some none, d => if (txtS d).size = 0 then none else some (txtS d).size
  | some (some none), d => if txsS d = 0 then none else some (txsS d)
  | some (some (some none)), d => if txsS d = 0 ∨ txsS d ≠ d.size then none else some d.size
  | some (some (some (some none))), d => if tagB d then some (txtS d).size else none
  | some (some (some (some (some none)))), d => if tagB d then some d.size else none
  | some (some (some (some (some (some none))))), d => if mapS d then some d.size else none
  | some (some (some (some (some (some (some none)))))), d => some d.size
  | some (some (some (some (some (some (some (some n))))))), d => if n ≤ d.size then some n else none

theorem nameF_le : ∀ (f : Nat) (s : ByteArray) (i : Nat), (nameF f s i).size ≤ s.size := by
  intro f
  induction f with
  | zero => intro s i; simp [nameF]
  | succ f ih =>
    intro s i
    rw [nameF]
    split
    · split
      · simp; omega
      · split
        · simp
        · exact ih _ _
    · simp
theorem name_le (s : ByteArray) : (nameAtS s).size ≤ s.size := nameF_le _ _ _

theorem sz_le {p : Pc} {d : ByteArray} {n : Nat} (h : sz p d = some n) : n ≤ d.size := by
  have h1 := name_le d
  have h2 := txt_le d
  have h3 := txs_le d
  cases p using Pc.elim <;> simp only [sz] at h
  all_goals first
    | (split at h
       · simp at h
       · simp at h; omega)
    | (split at h
       · simp at h; omega
       · simp at h)
    | (simp at h; omega)

/-- The parts of data, by a form; none: it has not the form. -/
def parts : List Pc → ByteArray → Option (List ByteArray)
  | [], d => if d.size = 0 then some [] else none
  | p :: r, d =>
    match sz p d with
    | none => none
    | some n => (parts r (d.extract n d.size)).map (fun l => d.extract 0 n :: l)

/-- Where the names stand in data whose first byte is the a-th. -/
def spans : List Pc → Nat → ByteArray → Option (List (Nat × Nat))
  | [], _, d => if d.size = 0 then some [] else none
  | p :: r, a, d =>
    match sz p d with
    | none => none
    | some n => (spans r (a + n) (d.extract n d.size)).map (fun l => if p.isN then (a, a + n) :: l else l)

def spansOf : List Pc → List ByteArray → Nat → List (Nat × Nat)
  | p :: r, x :: xs, a => if p.isN then (a, a + x.size) :: spansOf r xs (a + x.size) else spansOf r xs (a + x.size)
  | _, _, _ => []

theorem spans_of_parts : ∀ (fs : List Pc) (d : ByteArray) (a : Nat), spans fs a d = (parts fs d).map (fun ps => spansOf fs ps a) := by
  intro fs
  induction fs with
  | nil => intro d a; rw [spans, parts]; split <;> simp [spansOf]
  | cons p r ih =>
    intro d a
    rw [spans, parts]
    cases h : sz p d with
    | none => simp
    | some n =>
      have hn := sz_le h
      simp only [ih]
      cases parts r (d.extract n d.size) with
      | none => simp
      | some l =>
        have : (d.extract 0 n).size = n := by simp; omega
        simp [spansOf, this]

theorem spans_bs (m n : Nat) (r : List Pc) (a : Nat) (d : ByteArray) : spans (.bs m :: .bs n :: r) a d = spans (.bs (m + n) :: r) a d := by
  rw [spans, spans]
  simp only [sz]
  by_cases h : m ≤ d.size
  · rw [if_pos h]
    simp only [spans, sz]
    have e : (d.extract m d.size).size = d.size - m := by simp
    rw [e]
    by_cases h2 : m + n ≤ d.size
    · rw [if_pos (by omega), if_pos h2]
      have e2 : (d.extract m d.size).extract n (d.size - m) = d.extract (m + n) d.size := by
        rw [ByteArray.extract_extract]
        congr 1
        omega
      simp only [e2, Pc.isN, Nat.add_assoc]
      simp
    · rw [if_neg (by omega), if_neg h2]; simp
  · rw [if_neg h, if_neg (by omega)]

theorem spans_tag (a : Nat) (d : ByteArray) : spans [.tagr] a d = spans [.tag, .rs] a d := by
  have h2 := txt_le d
  simp only [spans, sz]
  by_cases h : tagB d
  · simp [h, Pc.isN]
  · simp [h]

theorem spans_txs (a : Nat) (d : ByteArray) : spans [.txs] a d = spans [.txe] a d := by
  have h3 := txs_le d
  simp only [spans, sz]
  by_cases h : txsS d = 0
  · simp [h]
  · by_cases h2 : txsS d = d.size
    · have h4 : d.size ≠ 0 := by omega
      simp [h2, h4, Pc.isN]
    · simp [h, h2]
      omega

/-- A form's letter as a piece. -/
def letP (c : UInt8) : Pc :=
  if c = 110 then .nm else if c = 98 then .bs 1 else if c = 116 then .tx else if c = 115 then .txs else if c = 99 then .tagr else if c = 109 then .mp else .rs

def specP (t : Int) : List Pc := (formS t).data.toList.map letP

def implP (t : Int) : List Pc :=
  if t = 1 then [.bs 4]
  else if t = 28 then [.bs 16]
  else if t = 2 ∨ t = 5 ∨ t = 12 ∨ t = 39 then [.nm]
  else if t = 15 then [.bs 2, .nm]
  else if t = 6 then [.nm, .nm, .bs 20]
  else if t = 33 then [.bs 6, .nm]
  else if t = 16 then [.txe]
  else if t = 13 then [.tx, .tx]
  else if t = 35 then [.bs 4, .tx, .tx, .tx, .nm]
  else if t = 257 then [.bs 1, .tag, .rs]
  else if t = 47 then [.nm, .mp]
  else [.rs]

theorem spans_cons {p : Pc} {r r' : List Pc} (h : ∀ a d, spans r a d = spans r' a d) (a : Nat) (d : ByteArray) : spans (p :: r) a d = spans (p :: r') a d := by
  rw [spans, spans]
  cases sz p d with
  | none => rfl
  | some n => simp only [h]

theorem forms_agree (t : Int) (a : Nat) (d : ByteArray) : spans (specP t) a d = spans (implP t) a d := by
  unfold specP implP formS
  by_cases h1 : t = 1
  · subst h1; simp [letP, spans_bs]
  by_cases h2 : t = 2 ∨ t = 5 ∨ t = 12 ∨ t = 39
  · have : t ≠ 28 := by omega
    simp [h1, h2, this, letP]
  by_cases h3 : t = 6
  · subst h3
    simp [letP]
    refine spans_cons (fun a d => ?_) a d
    refine spans_cons (fun a d => ?_) a d
    simp [spans_bs]
  by_cases h4 : t = 13
  · subst h4; simp [letP]
  by_cases h5 : t = 15
  · subst h5; simp [letP, spans_bs]
  by_cases h6 : t = 16
  · subst h6; simp [letP, spans_txs]
  by_cases h7 : t = 28
  · subst h7; simp [letP, spans_bs]
  by_cases h8 : t = 33
  · subst h8; simp [letP, spans_bs]
  by_cases h9 : t = 35
  · subst h9; simp [letP, spans_bs]
  by_cases h10 : t = 47
  · subst h10; simp [letP]
  by_cases h11 : t = 257
  · subst h11
    simp [letP]
    exact spans_cons (fun a d => spans_tag a d) a d
  simp [h1, h2, h3, h4, h5, h6, h7, h8, h9, h10, h11, letP]
end Go.Proofs.Ytihhchebcojplaa.Dt
/- Names at the beginning of a text are names; data folded, by its parts and by its places. -/
namespace Go.Proofs.Ytihhchebcojplaa.Dt
open Go.RowKit
set_option linter.unusedVariables false

theorem ext_get {s : ByteArray} {i e : Nat} (h : i < e) (he : e ≤ s.size) : (s.extract i e)[0]'(by simp; omega) = s[i] := by
  rw [ByteArray.getElem_extract]
  simp

theorem ext_ext {s : ByteArray} {i e n : Nat} (h : i + n ≤ e) (he : e ≤ s.size) : (s.extract i e).extract n (s.extract i e).size = s.extract (i + n) e := by
  rw [ByteArray.extract_extract]
  congr 1
  simp
  omega

theorem nameF_name : ∀ (f : Nat) (s : ByteArray) (i : Nat), (nameF f s i).size ≠ 0 →
    ∃ e, i < e ∧ e ≤ 255 ∧ e ≤ s.size ∧ nameF f s i = s.extract 0 e ∧ ∀ g, e - i < g → (Nm.splitF g (s.extract i e)).isSome = true := by
  intro f
  induction f with
  | zero => intro s i h; simp [nameF] at h
  | succ f ih =>
    intro s i h
    rw [nameF] at h ⊢
    by_cases h1 : i < s.size ∧ i < 255
    · rw [dif_pos h1] at h ⊢
      by_cases h2 : s[i].toNat = 0
      · rw [if_pos h2]
        refine ⟨i + 1, by omega, by omega, by omega, rfl, ?_⟩
        intro g hg
        obtain ⟨g, rfl⟩ : ∃ k, g = k + 1 := ⟨g - 1, by omega⟩
        rw [Nm.splitF_end g _ (by simp; omega) (by rw [ext_get (by omega) (by omega)]; exact h2) (by simp; omega)]
        rfl
      · rw [if_neg h2] at h ⊢
        by_cases h3 : 63 < s[i].toNat
        · rw [if_pos h3] at h; simp at h
        · rw [if_neg h3] at h ⊢
          obtain ⟨e, e1, e2, e3, e4, e5⟩ := ih s _ h
          refine ⟨e, by omega, e2, e3, e4, ?_⟩
          intro g hg
          obtain ⟨g, rfl⟩ : ∃ k, g = k + 1 := ⟨g - 1, by omega⟩
          have hp : 0 < (s.extract i e).size := by simp; omega
          have h0 : (s.extract i e)[0] = s[i] := ext_get (by omega) e3
          rw [Nm.splitF_step g _ hp (by rw [h0]; exact h2) (by rw [h0]; omega) (by rw [h0]; simp; omega), h0, ext_ext (by omega) e3]
          have := e5 g (by omega)
          rw [show i + (s[i].toNat + 1) = i + s[i].toNat + 1 by omega]
          simpa using this
    · rw [dif_neg h1] at h; simp at h

theorem nameAt_name {s : ByteArray} (h : (nameAtS s).size ≠ 0) : (Nm.split (nameAtS s)).isSome = true := by
  obtain ⟨e, e1, e2, e3, e4, e5⟩ := nameF_name 256 s 0 h
  have e6 : nameAtS s = s.extract 0 e := e4
  rw [e6, Nm.split_short _ (by simp; omega)]
  exact e5 256 (by omega)

theorem ext_all (s : ByteArray) : s.extract 0 s.size = s := by simp

theorem splitF_nameF : ∀ (g : Nat) (f : Nat) (s : ByteArray) (i : Nat), s.size ≤ 255 → 255 < f + i → i ≤ s.size → (Nm.splitF g (s.extract i s.size)).isSome = true → nameF f s i = s := by
  intro g
  induction g with
  | zero => intro f s i _ _ _ h; simp [Nm.splitF] at h
  | succ g ih =>
    intro f s i hs hf hi h
    by_cases hp : i < s.size
    · obtain ⟨f, rfl⟩ : ∃ k, f = k + 1 := ⟨f - 1, by omega⟩
      have hz : (s.extract i s.size).size = s.size - i := by simp
      have hq : 0 < (s.extract i s.size).size := by omega
      have h0 : (s.extract i s.size)[0] = s[i] := ext_get hp (Nat.le_refl _)
      rw [nameF, dif_pos ⟨hp, by omega⟩]
      by_cases h2 : s[i].toNat = 0
      · rw [if_pos h2]
        by_cases h3 : (s.extract i s.size).size = 1
        · rw [show i + 1 = s.size by omega]; exact ext_all s
        · rw [Nm.splitF_zero g _ hq (by rw [h0]; exact h2) h3] at h; simp at h
      · rw [if_neg h2]
        by_cases h3 : 63 < s[i].toNat ∨ s.size - i < s[i].toNat + 1
        · rw [Nm.splitF_bad g _ hq (by rw [h0]; exact h2) (by rw [h0, hz]; exact h3)] at h; simp at h
        · rw [if_neg (by omega)]
          rw [Nm.splitF_step g _ hq (by rw [h0]; exact h2) (by rw [h0]; omega) (by rw [h0, hz]; omega), h0, ext_ext (by omega) (Nat.le_refl _)] at h
          refine ih f s _ hs (by omega) (by omega) ?_
          rw [show i + (s[i].toNat + 1) = i + s[i].toNat + 1 by omega] at h
          simpa using h
    · rw [Nm.splitF_empty _ _ (by simp; omega)] at h; simp at h

theorem name_iff (s : ByteArray) : (Nm.split s).isSome = true ↔ (nameAtS s).size ≠ 0 ∧ (nameAtS s).size = s.size := by
  constructor
  · intro h
    by_cases hl : s.size ≤ 255
    · rw [Nm.split_short s hl] at h
      have e : nameAtS s = s := splitF_nameF 256 256 s 0 hl (by omega) (by omega) (by simpa using h)
      rw [e]
      refine ⟨?_, rfl⟩
      intro h0
      rw [Nm.splitF_empty _ _ h0] at h; simp at h
    · rw [Nm.split_long s (by omega)] at h; simp at h
  · rintro ⟨h0, h⟩
    obtain ⟨e, e1, e2, e3, e4, e5⟩ := nameF_name 256 s 0 h0
    have e6 : nameAtS s = s.extract 0 e := e4
    have e7 : e = s.size := by rw [e6] at h; simp at h; omega
    have e8 : nameAtS s = s := by rw [e6, e7]; exact ext_all s
    have := nameAt_name h0
    rwa [e8] at this

/-! Folding. -/

def catL (ps : List ByteArray) : List UInt8 := (ps.map (fun x => x.data.toList)).flatten

def foldL : List Pc → List ByteArray → List UInt8
  | p :: r, x :: xs => (if p.isN then Nm.smallL x.data.toList else x.data.toList) ++ foldL r xs
  | _, _ => []

theorem ext_cat (d : ByteArray) (n : Nat) (h : n ≤ d.size) : (d.extract 0 n).data.toList ++ (d.extract n d.size).data.toList = d.data.toList := by
  have e1 : (d.extract 0 n).data.toList = d.data.toList.take n := by simp
  have e2 : (d.extract n d.size).data.toList = d.data.toList.drop n := by
    simp only [ByteArray.data_extract, Array.toList_extract]
    rw [List.extract_eq_take_drop, List.take_of_length_le (by simp)]
  rw [e1, e2, List.take_append_drop]

theorem parts_cat : ∀ (fs : List Pc) (d : ByteArray) (ps : List ByteArray), parts fs d = some ps → fs.length = ps.length ∧ catL ps = d.data.toList ∧
    ∀ (i : Nat) (p : Pc) (x : ByteArray), fs[i]? = some p → ps[i]? = some x → p.isN = true → (Nm.split x).isSome = true := by
  intro fs
  induction fs with
  | nil =>
    intro d ps h
    rw [parts] at h
    split at h
    · rename_i h0
      simp at h
      subst h
      refine ⟨rfl, ?_, ?_⟩
      · have : d.data.toList.length = 0 := by simpa using h0
        rw [List.length_eq_zero_iff.1 this]; rfl
      · intro i p x h; simp at h
    · simp at h
  | cons p r ih =>
    intro d ps h
    rw [parts] at h
    cases hs : sz p d with
    | none => rw [hs] at h; simp at h
    | some n =>
      rw [hs] at h
      have hn := sz_le hs
      cases hr : parts r (d.extract n d.size) with
      | none => simp [hr] at h
      | some l =>
        simp [hr] at h
        obtain ⟨i1, i2, i3⟩ := ih _ _ hr
        subst h
        refine ⟨by simp [i1], ?_, ?_⟩
        · have : catL (d.extract 0 n :: l) = (d.extract 0 n).data.toList ++ catL l := by simp [catL]
          rw [this, i2, ext_cat d n hn]
        · intro i q x hq hx hN
          cases i with
          | zero =>
            simp at hq hx
            subst hq
            subst hx
            cases p using Pc.elim <;> simp [Pc.isN] at hN
            simp only [sz] at hs
            split at hs
            · simp at hs
            · rename_i h0
              simp at hs
              obtain ⟨e, e1, e2, e3, e4, e5⟩ := nameF_name 256 d 0 h0
              have e6 : nameAtS d = d.extract 0 e := e4
              have e7 : e = n := by rw [e6] at hs; simp at hs; omega
              rw [← e7, ← e6]
              exact nameAt_name h0
          | succ i =>
            simp at hq hx
            exact i3 i q x hq hx hN

def lowIn (s : Nat × Nat) (l : List UInt8) : List UInt8 := l.take s.1 ++ (Nm.smallL ((l.drop s.1).take (s.2 - s.1)) ++ l.drop s.2)
def lowAll (sp : List (Nat × Nat)) (l : List UInt8) : List UInt8 := sp.foldl (fun l s => lowIn s l) l

theorem lowAll_parts : ∀ (fs : List Pc) (ps : List ByteArray) (pre : List UInt8), fs.length = ps.length → lowAll (spansOf fs ps pre.length) (pre ++ catL ps) = pre ++ foldL fs ps := by
  intro fs
  induction fs with
  | nil =>
    intro ps pre h
    have : ps = [] := List.length_eq_zero_iff.1 (by simpa using h.symm)
    subst this
    simp [spansOf, lowAll, foldL, catL]
  | cons p r ih =>
    intro ps pre h
    cases ps with
    | nil => simp at h
    | cons x xs =>
      have hl : r.length = xs.length := by simpa using h
      have hx : x.data.toList.length = x.size := by simp
      have hc : catL (x :: xs) = x.data.toList ++ catL xs := by simp [catL]
      rw [spansOf, hc, foldL]
      cases hN : p.isN with
      | true =>
        simp only [if_true]
        have e1 : lowIn (pre.length, pre.length + x.size) (pre ++ (x.data.toList ++ catL xs)) = (pre ++ Nm.smallL x.data.toList) ++ catL xs := by
          have k1 : (pre ++ (x.data.toList ++ catL xs)).take pre.length = pre := List.take_left' rfl
          have k2 : (pre ++ (x.data.toList ++ catL xs)).drop pre.length = x.data.toList ++ catL xs := List.drop_left' rfl
          have k3 : (x.data.toList ++ catL xs).take x.size = x.data.toList := List.take_left' hx
          have k4 : (pre ++ (x.data.toList ++ catL xs)).drop (pre.length + x.size) = catL xs := by
            rw [← List.append_assoc]
            exact List.drop_left' (by rw [List.length_append, hx])
          simp only [lowIn]
          rw [k1, k2, Nat.add_sub_cancel_left, k3, k4, List.append_assoc]
        have e2 : lowAll ((pre.length, pre.length + x.size) :: spansOf r xs (pre.length + x.size)) (pre ++ (x.data.toList ++ catL xs)) = lowAll (spansOf r xs (pre.length + x.size)) ((pre ++ Nm.smallL x.data.toList) ++ catL xs) := by
          rw [← e1]; rfl
        have e3 : pre.length + x.size = (pre ++ Nm.smallL x.data.toList).length := by simp [Nm.smallL]
        rw [e2, e3, ih xs _ hl]
        simp
      | false =>
        simp only [if_false, Bool.false_eq_true]
        have e3 : pre.length + x.size = (pre ++ x.data.toList).length := by simp
        rw [e3, ← List.append_assoc, ih xs _ hl]
        simp

/-- Data folded; nothing where it is not of its form. -/
def foldDS (t : Int) (d : ByteArray) : ByteArray :=
  match spans (implP t) 0 d with
  | none => ByteArray.empty
  | some sp => ⟨(lowAll sp d.data.toList).toArray⟩

theorem foldDS_none {t : Int} {d : ByteArray} (h : parts (specP t) d = none) : foldDS t d = ByteArray.empty := by
  rw [foldDS, ← forms_agree, spans_of_parts, h]; rfl

theorem foldDS_some {t : Int} {d : ByteArray} {ps : List ByteArray} (h : parts (specP t) d = some ps) : foldDS t d = ⟨(foldL (specP t) ps).toArray⟩ := by
  obtain ⟨h1, h2, h3⟩ := parts_cat _ _ _ h
  rw [foldDS, ← forms_agree, spans_of_parts, h]
  have := lowAll_parts (specP t) ps [] h1
  simp only [List.length_nil, List.nil_append] at this
  rw [h2] at this
  simp only [Option.map_some, this]
end Go.Proofs.Ytihhchebcojplaa.Dt
/- The parts of data, step by step: mathematics. -/
namespace Go.Proofs.Ytihhchebcojplaa.Dt
open Go.RowKit

/-- Where the cutting stands: 'ps' are the parts that were cut off, 'd' is the rest, 'r' the letters that are left. -/
def PAt (fs : List Pc) (d0 : ByteArray) (ps : List ByteArray) (r : List Pc) (d : ByteArray) : Prop :=
  parts fs d0 = (parts r d).map (fun t => ps ++ t)

theorem pat_start (fs : List Pc) (d0 : ByteArray) : PAt fs d0 [] fs d0 := by simp [PAt]
theorem pat_end {fs : List Pc} {d0 d : ByteArray} {ps : List ByteArray} (h : PAt fs d0 ps [] d) (h0 : d.size = 0) : parts fs d0 = some ps := by
  rw [h, parts, if_pos h0]; simp
theorem pat_left {fs : List Pc} {d0 d : ByteArray} {ps : List ByteArray} (h : PAt fs d0 ps [] d) (h0 : d.size ≠ 0) : parts fs d0 = none := by
  rw [h, parts, if_neg h0]; rfl
theorem pat_none {fs r : List Pc} {p : Pc} {d0 d : ByteArray} {ps : List ByteArray} (h : PAt fs d0 ps (p :: r) d) (h0 : sz p d = none) : parts fs d0 = none := by
  rw [h, parts, h0]; rfl
theorem pat_step {fs r : List Pc} {p : Pc} {d0 d x : ByteArray} {ps : List ByteArray} {n : Nat} (h : PAt fs d0 ps (p :: r) d) (h0 : sz p d = some n) (hx : d.extract 0 n = x) : PAt fs d0 (ps ++ [x]) r (d.extract x.size d.size) := by
  have hn := sz_le h0
  have e : x.size = n := by rw [← hx]; simp; omega
  rw [PAt, h, parts, h0, Option.map_map, hx, e]
  congr 1; funext t; simp

theorem drop_let {f : ByteArray} {k : Nat} (hk : k < f.size) : (f.data.toList.map letP).drop k = letP f[k] :: (f.data.toList.map letP).drop (k + 1) := by
  have hl : k < (f.data.toList.map letP).length := by simpa using hk
  rw [List.drop_eq_getElem_cons hl]
  simp
  rfl

theorem name_ext (d : ByteArray) (h : (nameAtS d).size ≠ 0) : d.extract 0 (nameAtS d).size = nameAtS d := by
  obtain ⟨e, e1, e2, e3, e4, e5⟩ := nameF_name 256 d 0 h
  have e6 : nameAtS d = d.extract 0 e := e4
  have e7 : (nameAtS d).size = e := by rw [e6]; simp; omega
  rw [e7, e6]

theorem txt_ext (d : ByteArray) : d.extract 0 (txtS d).size = txtS d := by
  by_cases h : 0 < d.size
  · by_cases h1 : d[0].toNat + 1 ≤ d.size
    · have e : txtS d = d.extract 0 (d[0].toNat + 1) := by rw [txtS, dif_pos h, if_pos h1]
      have e7 : (txtS d).size = d[0].toNat + 1 := by rw [e]; simp; omega
      rw [e7, e]
    · have e : txtS d = ByteArray.empty := by rw [txtS, dif_pos h, if_neg h1]
      rw [e]; simp
  · have e : txtS d = ByteArray.empty := by rw [txtS, dif_neg h]
    rw [e]; simp

theorem ext_none (d : ByteArray) : d.extract d.size d.size = ByteArray.empty := by
  apply Nm.ba_ext
  simp

/-- Where the reading of short texts stands. -/
def TAt (d p : ByteArray) : Prop := p.size ≤ d.size ∧ d.extract 0 p.size = p ∧ txsS d = p.size + txsS (d.extract p.size d.size)

theorem tat_start (d : ByteArray) : TAt d ⟨#[]⟩ := by
  have e : (⟨#[]⟩ : ByteArray).size = 0 := rfl
  refine ⟨by omega, ?_, ?_⟩
  · rw [e]
    apply Nm.ba_ext
    simp
  · rw [e]; simp
theorem tat_end {d p : ByteArray} (h : TAt d p) (h0 : (txtS (d.extract p.size d.size)).size = 0) : txsS d = p.size := by
  rw [h.2.2, txs_none h0]; rfl
theorem tat_step {d p : ByteArray} (h : TAt d p) (h0 : (txtS (d.extract p.size d.size)).size ≠ 0) : TAt d (p ++ txtS (d.extract p.size d.size)) := by
  obtain ⟨h1, h2, h3⟩ := h
  have ht := txt_le (d.extract p.size d.size)
  have hte := txt_ext (d.extract p.size d.size)
  generalize hT : txtS (d.extract p.size d.size) = T at *
  have hz : (p ++ T).size = p.size + T.size := by simp
  have hd : (d.extract p.size d.size).size = d.size - p.size := by simp
  refine ⟨by omega, ?_, ?_⟩
  · apply Nm.ba_ext
    rw [hz]
    have e1 : (p ++ T).data.toList = p.data.toList ++ T.data.toList := by simp
    rw [e1, ← hte]
    conv => rhs; arg 1; rw [← h2]
    simp only [ByteArray.data_extract, Array.toList_extract, List.extract_eq_take_drop]
    simp
    rw [List.take_add]
    congr 1
    rw [List.take_take, Nat.min_eq_left (by omega)]
  · rw [hz, h3, txs_step (by rw [hT]; exact h0), hT]
    have e : (d.extract p.size d.size).extract T.size (d.extract p.size d.size).size = d.extract (p.size + T.size) d.size := ext_ext (by omega) (Nat.le_refl _)
    rw [e]; omega

/-- Where the reading of a tag stands. -/
theorem tag_short {d : ByteArray} (h : (txtS d).size < 2 ∨ 16 < (txtS d).size) : tagB d = false := by
  rw [tagB]
  rcases h with h | h
  · simp; omega
  · simp; omega
theorem tag_bad {d : ByteArray} {k : Nat} (hk : 1 ≤ k) (hl : k < (txtS d).size) (h : alnumB (txtS d)[k] = false) : tagB d = false := by
  rw [tagB, Bool.and_eq_false_iff]
  right
  rw [List.all_eq_false]
  refine ⟨(txtS d)[k], ?_, by simp [h]⟩
  have : ((txtS d).data.toList.drop 1)[k - 1]? = some (txtS d)[k] := by
    rw [List.getElem?_drop, show 1 + (k - 1) = k by omega]
    exact Nm.get_data hl
  exact List.mem_of_getElem? this
theorem tag_good {d : ByteArray} (h2 : 2 ≤ (txtS d).size) (h16 : (txtS d).size ≤ 16) (h : ∀ j, 1 ≤ j → (hj : j < (txtS d).size) → alnumB (txtS d)[j] = true) : tagB d = true := by
  rw [tagB]
  simp only [h2, h16, decide_true, Bool.true_and, List.all_eq_true]
  intro c hc
  obtain ⟨i, hi⟩ := List.getElem?_of_mem hc
  rw [List.getElem?_drop] at hi
  have hl : 1 + i < (txtS d).size := by
    have := (List.getElem?_eq_some_iff.1 hi).1
    simpa using this
  rw [Nm.get_data hl] at hi
  simp at hi
  rw [← hi]
  exact h _ (by omega) hl
end Go.Proofs.Ytihhchebcojplaa.Dt
/- Cutting data by the program's forms, step by step: mathematics. -/
namespace Go.Proofs.Ytihhchebcojplaa
open Go.RowKit

def cutCode (t : Int) (d : ByteArray) : Int :=
  if t < 0 ∨ 65535 < t then 6 else if 65535 < d.size then 7 else if (Dt.spans (Dt.implP t) 0 d).isSome then 0 else 7
def cutS (t : Int) (d : ByteArray) : Option (List (Nat × Nat)) := if t < 0 ∨ 65535 < t then none else if 65535 < d.size then none else Dt.spans (Dt.implP t) 0 d

def spanCells (sp : List (Nat × Nat)) : List Value := sp.flatMap fun s => [.int .i64 (s.1 : Int), .int .i64 (s.2 : Int)]
theorem spanCells_append (a b : List (Nat × Nat)) : spanCells (a ++ b) = spanCells a ++ spanCells b := by simp [spanCells]

/-- Where the cutting stands. -/
def CAt (fs : List Dt.Pc) (d : ByteArray) (sp : List (Nat × Nat)) (r : List Dt.Pc) (a : Nat) : Prop :=
  Dt.spans fs 0 d = (Dt.spans r a (d.extract a d.size)).map (fun t => sp ++ t)

theorem cat_start (fs : List Dt.Pc) (d : ByteArray) : CAt fs d [] fs 0 := by simp [CAt]
theorem cat_end {fs : List Dt.Pc} {d : ByteArray} {sp : List (Nat × Nat)} {a : Nat} (h : CAt fs d sp [] a) (h0 : d.size ≤ a) : Dt.spans fs 0 d = some sp := by
  rw [h, Dt.spans, if_pos (by simp; omega)]; simp
theorem cat_left {fs : List Dt.Pc} {d : ByteArray} {sp : List (Nat × Nat)} {a : Nat} (h : CAt fs d sp [] a) (h0 : a < d.size) : Dt.spans fs 0 d = none := by
  rw [h, Dt.spans, if_neg (by simp; omega)]; rfl
theorem cat_none {fs r : List Dt.Pc} {p : Dt.Pc} {d : ByteArray} {sp : List (Nat × Nat)} {a : Nat} (h : CAt fs d sp (p :: r) a) (h0 : Dt.sz p (d.extract a d.size) = none) : Dt.spans fs 0 d = none := by
  rw [h, Dt.spans, h0]; rfl
theorem cat_step {fs r : List Dt.Pc} {p : Dt.Pc} {d : ByteArray} {sp : List (Nat × Nat)} {a n : Nat} (h : CAt fs d sp (p :: r) a) (ha : a ≤ d.size) (h0 : Dt.sz p (d.extract a d.size) = some n) :
    CAt fs d (sp ++ if p.isN then [(a, a + n)] else []) r (a + n) ∧ a + n ≤ d.size := by
  have hn := Dt.sz_le h0
  have hz : (d.extract a d.size).size = d.size - a := by simp
  refine ⟨?_, by omega⟩
  rw [CAt, h, Dt.spans, h0, Option.map_map, Dt.ext_ext (by omega) (Nat.le_refl _)]
  congr 1
  funext t
  cases p.isN <;> simp

theorem code_type {t : Int} {d : ByteArray} (h : t < 0 ∨ 65535 < t) : cutCode t d = 6 ∧ cutS t d = none := by
  rw [cutCode, cutS, if_pos h, if_pos h]; exact ⟨rfl, rfl⟩
theorem code_long {t : Int} {d : ByteArray} (h : ¬ (t < 0 ∨ 65535 < t)) (h1 : 65535 < d.size) : cutCode t d = 7 ∧ cutS t d = none := by
  rw [cutCode, cutS, if_neg h, if_neg h, if_pos h1, if_pos h1]; exact ⟨rfl, rfl⟩
theorem code_none {t : Int} {d : ByteArray} (h : ¬ (t < 0 ∨ 65535 < t)) (h1 : ¬ 65535 < d.size) (h2 : Dt.spans (Dt.implP t) 0 d = none) : cutCode t d = 7 ∧ cutS t d = none := by
  rw [cutCode, cutS, if_neg h, if_neg h, if_neg h1, if_neg h1, h2]; exact ⟨rfl, rfl⟩
theorem code_some {t : Int} {d : ByteArray} {sp : List (Nat × Nat)} (h : ¬ (t < 0 ∨ 65535 < t)) (h1 : ¬ 65535 < d.size) (h2 : Dt.spans (Dt.implP t) 0 d = some sp) : cutCode t d = 0 ∧ cutS t d = some sp := by
  rw [cutCode, cutS, if_neg h, if_neg h, if_neg h1, if_neg h1, h2]; exact ⟨rfl, rfl⟩
theorem implP_len (t : Int) : (Dt.implP t).length ≤ 5 := by
  unfold Dt.implP
  repeat' split
  all_goals simp
end Go.Proofs.Ytihhchebcojplaa
/- Data of its form: its parts and its places. Mathematics. -/
namespace Go.Proofs.Ytihhchebcojplaa
open Go.RowKit

theorem code_zero {t : Int} {d : ByteArray} : cutCode t d = 0 ↔ ∃ sp, cutS t d = some sp := by
  by_cases h : t < 0 ∨ 65535 < t
  · obtain ⟨h1, h2⟩ := code_type (d := d) h
    rw [h1, h2]; simp
  · by_cases h1 : 65535 < d.size
    · obtain ⟨h2, h3⟩ := code_long h h1
      rw [h2, h3]; simp
    · cases hq : Dt.spans (Dt.implP t) 0 d with
      | none => obtain ⟨h2, h3⟩ := code_none h h1 hq; rw [h2, h3]; simp
      | some sp => obtain ⟨h2, h3⟩ := code_some h h1 hq; rw [h2, h3]; simp

/-- Of data of its form: its parts, and where the names stand. -/
theorem good_parts {t : Int} {d : ByteArray} (h : cutCode t d = 0) : ∃ ps, Dt.parts (Dt.specP t) d = some ps ∧ cutS t d = some (Dt.spansOf (Dt.specP t) ps 0) ∧ d.size ≤ 65535 := by
  obtain ⟨sp, hsp⟩ := code_zero.1 h
  by_cases ht : t < 0 ∨ 65535 < t
  · rw [(code_type (d := d) ht).2] at hsp; cases hsp
  · by_cases h1 : 65535 < d.size
    · rw [(code_long ht h1).2] at hsp; cases hsp
    · have e : cutS t d = Dt.spans (Dt.implP t) 0 d := by rw [cutS, if_neg ht, if_neg h1]
      rw [e, ← Dt.forms_agree, Dt.spans_of_parts] at hsp
      cases hq : Dt.parts (Dt.specP t) d with
      | none => rw [hq] at hsp; simp at hsp
      | some ps =>
        refine ⟨ps, rfl, ?_, by omega⟩
        rw [e, ← Dt.forms_agree, Dt.spans_of_parts, hq]; rfl

theorem part_le : ∀ (ps : List ByteArray) (x : ByteArray), x ∈ ps → x.size ≤ (Dt.catL ps).length := by
  intro ps
  induction ps with
  | nil => intro x h; simp at h
  | cons y ps ih =>
    intro x h
    have e : (Dt.catL (y :: ps)).length = y.size + (Dt.catL ps).length := by simp [Dt.catL]
    rcases List.mem_cons.1 h with rfl | h
    · omega
    · have := ih x h; omega

theorem isN_let (c : UInt8) : (Dt.letP c).isN = decide (c.toNat = 110) := by
  by_cases h : c = 110
  · subst h; rfl
  · have h' : c.toNat ≠ 110 := fun e => h (UInt8.toNat_inj.1 (by simpa using e))
    simp only [h', decide_false]
    unfold Dt.letP
    rw [if_neg h]
    repeat' split
    all_goals rfl

theorem spans_few : ∀ (fs : List Dt.Pc) (a : Nat) (d : ByteArray) (sp : List (Nat × Nat)), Dt.spans fs a d = some sp → sp.length ≤ fs.length := by
  intro fs
  induction fs with
  | nil =>
    intro a d sp h
    rw [Dt.spans] at h
    split at h
    · simp at h; subst h; simp
    · simp at h
  | cons p r ih =>
    intro a d sp h
    rw [Dt.spans] at h
    cases hq : Dt.sz p d with
    | none => rw [hq] at h; simp at h
    | some n =>
      rw [hq] at h
      cases hr : Dt.spans r (a + n) (d.extract n d.size) with
      | none => simp [hr] at h
      | some l =>
        have := ih _ _ _ hr
        simp [hr] at h
        subst h
        cases p.isN <;> simp <;> omega

theorem cut_few (t : Int) (d : ByteArray) : ((cutS t d).getD []).length ≤ 5 := by
  cases h : cutS t d with
  | none => simp
  | some sp =>
    rw [cutS] at h
    split at h
    · cases h
    · split at h
      · cases h
      · have h1 := spans_few _ _ _ _ h
        have h2 := implP_len t
        simp; omega

end Go.Proofs.Ytihhchebcojplaa
/- The types whose data may have pointers. -/
namespace Go.Proofs.Ytihhchebcojplaa
/-- Data of the types whose names may have pointers. -/
abbrev pointed (t : Nat) : Prop := t = 2 ∨ t = 5 ∨ t = 6 ∨ t = 12 ∨ t = 15
end Go.Proofs.Ytihhchebcojplaa
/- spec.l02Put by its contract. -/
namespace Go.Proofs.Ytihhchebcojplaa
open Go.RowKit

def byteI (x : Int) : UInt8 := UInt8.ofNat (x % 256).toNat
theorem byteI_val (x : Int) : ((byteI x).toNat : Int) = x % 256 := by
  have h1 : 0 ≤ x % 256 := by omega
  have h2 : x % 256 < 256 := by omega
  have : (byteI x).toNat = (x % 256).toNat := by simp [byteI]; omega
  rw [this]; omega

def put4 (n : Int) : List UInt8 := [byteI (n / 16777216), byteI (n / 65536), byteI (n / 256), byteI n]

theorem put4_cells (n : Int) : Nm.bys (put4 n) = [.int .u8 (n / 16777216 % 256), .int .u8 (n / 65536 % 256), .int .u8 (n / 256 % 256), .int .u8 (n % 256)] := by
  simp [Nm.bys, put4, byteI_val]

theorem cell_new4 (w : World) (a b c d : Value) (e : Nat) : ∀ (j : Nat) (u : Value), [a, b, c, d][j]? = some u → (w.alloc (.cells #[a, b, c, d] e)).cell? ((⟨w.heap.size, 0, none⟩ : Addr).add j) = some u := by
  intro j u hj
  match j, hj with
  | 0, hj => simp at hj; subst hj; simp [Addr.add]
  | 1, hj => simp at hj; subst hj; simp [Addr.add]
  | 2, hj => simp at hj; subst hj; simp [Addr.add]
  | 3, hj => simp at hj; subst hj; simp [Addr.add]

theorem put_step {W wr w1 : World} {v v' : Value} {B e n : Nat} {l : List Value} {x : Value} (hB : B ≤ wr.heap.size)
    (hown : wr.ownsRow B e 1 v n l) (hbel : Below B W wr) (o : Obj) (hgrow : (wr.alloc o).grownBy w1 v.ownBlock)
    (hown' : w1.ownsRow B e 1 v' (n + 1) (l ++ [x])) :
    w1.ownsRow B e 1 v' (n + 1) (l ++ [x]) ∧ Below B W w1 := by
  refine ⟨hown', ?_⟩
  refine (hbel.alloc hB o).grown hgrow (by simp; omega) ?_
  intro k hk
  exact (hown.lt k hk).1

set_option maxRecDepth 100000 in
set_option maxHeartbeats 800000 in
theorem l02Put_any (n : Int) (w : World) (h0 : 0 ≤ n) (h1 : n ≤ 4294967295) :
    Calls Try.prog 44 #[.int .i64 n, .int .i64 4] w fun e w' => e = .returned (.string ⟨(put4 n).toArray⟩) ∧ Below w.heap.size w w' := by
  obtain ⟨i0, hi, hz0, hz1, hz2⟩ := info_parts Try.infoB
  have hcs := put4_cells n
  have e : n / 16777216 % 256 = n / 16777216 := by omega
  rw [e] at hcs
  clear e
  go_enter Try.func44, Try.ntmps44
  go_wp2
  go_loopw [5, 6] (fun v i wr => ∃ j : Nat, j ≤ 4 ∧ i = .int .i64 (3 - (j : Int)) ∧ wr.ownsRow w.heap.size 5 1 v j ([Value.int .u8 (n / 16777216), .int .u8 (n / 65536 % 256), .int .u8 (n / 256 % 256), .int .u8 (n % 256)].take j) ∧ Below w.heap.size w wr)
    (fun _ i _ => (intOf i + 1).toNat)
  case atStart => exact ⟨0, by omega, rfl, World.ownsRow_made w #[] 0 (Nat.le_refl _) (by decide) rfl, (Below.refl _ _).alloc (Nat.le_refl _) _⟩
  case round =>
    obtain ⟨j, hj, rfl, hown, hbel⟩ := hrel
    have hsz := hbel.size
    obtain rfl | rfl | rfl | rfl | rfl : j = 0 ∨ j = 1 ∨ j = 2 ∨ j = 3 ∨ j = 4 := by omega
    · simp only [List.take_zero, Int.sub_zero, Int.cast_ofNat_Int] at hown ⊢
      go_wp2_with (at_builtin; refine wpList_append_own _ rfl (.tmp 14) (.tmp 21) 22 rfl w.heap.size 5 i0 (.int .u8 0) 1 1 Try.underlying22 hi hz0 hz1 hz2 rfl (by decide) _ _ _ rfl (hown.alloc _) ⟨wr.heap.size, 0, none⟩ 1 1 [.int .u8 (n / 16777216)] rfl rfl (cell_new1 _ _ _) (Nm.one_cell _ rfl) (by unfold maxLen; omega) (by omega) (by simp; omega) ?_)
      intro v' w1 hown' hgrow _
      have R := put_step hsz hown hbel _ hgrow hown'
      clear hown' hgrow hown hbel
      go_wp2
      go_roundw
      case rel => exact ⟨1, by omega, by go_num, R.1, R.2⟩
      case measure => simp [intOf]
    · simp only [List.take_succ_cons, List.take_zero] at hown ⊢
      go_wp2_with (at_builtin; refine wpList_append_own _ rfl (.tmp 14) (.tmp 21) 22 rfl w.heap.size 5 i0 (.int .u8 0) 1 1 Try.underlying22 hi hz0 hz1 hz2 rfl (by decide) _ _ _ rfl (hown.alloc _) ⟨wr.heap.size, 0, none⟩ 1 1 [.int .u8 (n / 65536 % 256)] rfl rfl (cell_new1 _ _ _) (Nm.one_cell _ rfl) (by unfold maxLen; omega) (by omega) (by simp; omega) ?_)
      intro v' w1 hown' hgrow _
      have R := put_step hsz hown hbel _ hgrow hown'
      clear hown' hgrow hown hbel
      go_wp2
      go_roundw
      case rel => exact ⟨2, by omega, by go_num, R.1, R.2⟩
      case measure => simp [intOf]
    · simp only [List.take_succ_cons, List.take_zero] at hown ⊢
      go_wp2_with (at_builtin; refine wpList_append_own _ rfl (.tmp 14) (.tmp 21) 22 rfl w.heap.size 5 i0 (.int .u8 0) 1 1 Try.underlying22 hi hz0 hz1 hz2 rfl (by decide) _ _ _ rfl (hown.alloc _) ⟨wr.heap.size, 0, none⟩ 1 1 [.int .u8 (n / 256 % 256)] rfl rfl (cell_new1 _ _ _) (Nm.one_cell _ rfl) (by unfold maxLen; omega) (by omega) (by simp; omega) ?_)
      intro v' w1 hown' hgrow _
      have R := put_step hsz hown hbel _ hgrow hown'
      clear hown' hgrow hown hbel
      go_wp2
      go_roundw
      case rel => exact ⟨3, by omega, by go_num, R.1, R.2⟩
      case measure => simp [intOf]
    · simp only [List.take_succ_cons, List.take_zero] at hown ⊢
      go_wp2_with (at_builtin; refine wpList_append_own _ rfl (.tmp 14) (.tmp 21) 22 rfl w.heap.size 5 i0 (.int .u8 0) 1 1 Try.underlying22 hi hz0 hz1 hz2 rfl (by decide) _ _ _ rfl (hown.alloc _) ⟨wr.heap.size, 0, none⟩ 1 1 [.int .u8 (n % 256)] rfl rfl (cell_new1 _ _ _) (Nm.one_cell _ rfl) (by unfold maxLen; omega) (by omega) (by simp; omega) ?_)
      intro v' w1 hown' hgrow _
      have R := put_step hsz hown hbel _ hgrow hown'
      clear hown' hgrow hown hbel
      go_wp2
      go_roundw
      case rel => exact ⟨4, by omega, by go_num, R.1, R.2⟩
      case measure => simp [intOf]
    · simp only [List.take_succ_cons, List.take_zero] at hown ⊢
      rw [← hcs] at hown
      have HC := Nm.conv_own (P := Try.prog) (src := 22) (dst := 9) Try.underlying22 Try.underlying5 Try.underlying9 hown (by omega)
      obtain ⟨g, cap, rfl, hcv⟩ := HC
      clear hown
      go_wp2
      go_ret
      exact ⟨rfl, hbel⟩
end Go.Proofs.Ytihhchebcojplaa
/- Records as they come in: mathematics. -/
namespace Go.Proofs.Ytihhchebcojplaa
open Go.RowKit
set_option linter.unusedVariables false

/-- A record: its owner, type, class, time and data. -/
structure Rr where
  own : ByteArray
  ty : Int
  cl : Int
  tt : Int
  da : ByteArray

def rvV (r : Rr) : List Value := [.string r.own, .int .i64 r.ty, .int .i64 r.cl, .int .i64 r.tt, .string r.da]
def rvVs (xs : List Rr) : List Value := xs.flatMap rvV
theorem rvVs_cons (x : Rr) (xs : List Rr) : rvVs (x :: xs) = rvV x ++ rvVs xs := by simp [rvVs]
theorem rvVs_app (a b : List Rr) : rvVs (a ++ b) = rvVs a ++ rvVs b := by simp [rvVs]
theorem rvVs_len (xs : List Rr) : (rvVs xs).length = xs.length * 5 := by
  induction xs with
  | nil => rfl
  | cons x xs ih =>
    have : (rvV x).length = 5 := rfl
    rw [rvVs_cons, List.length_append, ih, List.length_cons, this]; omega

theorem rvVs_at : ∀ (xs : List Rr) (k j : Nat) (x : Rr), xs[k]? = some x → j < 5 → (rvVs xs)[k * 5 + j]? = (rvV x)[j]? := by
  intro xs
  induction xs with
  | nil => intro k j x h; simp at h
  | cons y xs ih =>
    intro k j x h hj
    have hl : (rvV y).length = 5 := rfl
    cases k with
    | zero =>
      simp at h; subst h
      rw [rvVs_cons, Nat.zero_mul, Nat.zero_add, List.getElem?_append_left (by omega)]
    | succ k =>
      simp at h
      rw [rvVs_cons, List.getElem?_append_right (by omega), hl, show (k + 1) * 5 + j - 5 = k * 5 + j by omega]
      exact ih k j x h hj

theorem rv_cells {w : World} {xs : List Rr} {b off k : Nat} {x : Rr} (hc : ∀ (i : Nat) (y : Value), (rvVs xs)[i]? = some y → w.cell? ⟨b, off + i, none⟩ = some y) (h : xs[k]? = some x) :
    w.cell? ⟨b, off + k * 5, none⟩ = some (.string x.own) ∧ w.cell? ⟨b, off + k * 5 + 1, none⟩ = some (.int .i64 x.ty) ∧ w.cell? ⟨b, off + k * 5 + 2, none⟩ = some (.int .i64 x.cl) ∧ w.cell? ⟨b, off + k * 5 + 3, none⟩ = some (.int .i64 x.tt) ∧ w.cell? ⟨b, off + k * 5 + 4, none⟩ = some (.string x.da) :=
  ⟨hc (k * 5) _ ((rvVs_at xs k 0 x h (by decide)).trans rfl), hc (k * 5 + 1) _ ((rvVs_at xs k 1 x h (by decide)).trans rfl), hc (k * 5 + 2) _ ((rvVs_at xs k 2 x h (by decide)).trans rfl), hc (k * 5 + 3) _ ((rvVs_at xs k 3 x h (by decide)).trans rfl), hc (k * 5 + 4) _ ((rvVs_at xs k 4 x h (by decide)).trans rfl)⟩

/-- The bytes of records, as the laws count them. -/
def rsum : List Rr → Nat
  | [] => 0
  | x :: xs => x.own.size + x.da.size + rsum xs
theorem rsum_step : ∀ (xs : List Rr) (k : Nat) (x : Rr), xs[k]? = some x → rsum (xs.take (k + 1)) = rsum (xs.take k) + (x.own.size + x.da.size) := by
  intro xs
  induction xs with
  | nil => intro k x h; simp at h
  | cons y xs ih =>
    intro k x h
    cases k with
    | zero => simp at h; subst h; simp [rsum]
    | succ k =>
      simp at h
      have := ih k x h
      simp only [List.take_succ_cons, rsum]; omega
theorem rsum_take_le : ∀ (xs : List Rr) (k : Nat), rsum (xs.take k) ≤ rsum xs := by
  intro xs
  induction xs with
  | nil => intro k; simp [rsum]
  | cons y xs ih =>
    intro k
    cases k with
    | zero => simp [rsum]
    | succ k => have := ih k; simp only [List.take_succ_cons, rsum]; omega
theorem rsum_mem : ∀ (xs : List Rr) (x : Rr), x ∈ xs → x.own.size + x.da.size ≤ rsum xs := by
  intro xs
  induction xs with
  | nil => intro x h; simp at h
  | cons y xs ih =>
    intro x h
    rcases List.mem_cons.1 h with rfl | h
    · simp only [rsum]; omega
    · have := ih x h; simp only [rsum]; omega
def szRS (xs : List Rr) (L : Int) : Int := if (xs.length : Int) + (rsum xs : Int) ≤ L then L - xs.length - rsum xs else -1
end Go.Proofs.Ytihhchebcojplaa
/- Questions as they come in: mathematics. -/
namespace Go.Proofs.Ytihhchebcojplaa
open Go.RowKit
set_option linter.unusedVariables false

/-- A question: its name, type and class. -/
structure Qr where
  nm : ByteArray
  ty : Int
  cl : Int

def qvV (r : Qr) : List Value := [.string r.nm, .int .i64 r.ty, .int .i64 r.cl]
def qvVs (xs : List Qr) : List Value := xs.flatMap qvV
theorem qvVs_cons (x : Qr) (xs : List Qr) : qvVs (x :: xs) = qvV x ++ qvVs xs := by simp [qvVs]
theorem qvVs_app (a b : List Qr) : qvVs (a ++ b) = qvVs a ++ qvVs b := by simp [qvVs]
theorem qvVs_len (xs : List Qr) : (qvVs xs).length = xs.length * 3 := by
  induction xs with
  | nil => rfl
  | cons x xs ih =>
    have : (qvV x).length = 3 := rfl
    rw [qvVs_cons, List.length_append, ih, List.length_cons, this]; omega

theorem qvVs_at : ∀ (xs : List Qr) (k j : Nat) (x : Qr), xs[k]? = some x → j < 3 → (qvVs xs)[k * 3 + j]? = (qvV x)[j]? := by
  intro xs
  induction xs with
  | nil => intro k j x h; simp at h
  | cons y xs ih =>
    intro k j x h hj
    have hl : (qvV y).length = 3 := rfl
    cases k with
    | zero =>
      simp at h; subst h
      rw [qvVs_cons, Nat.zero_mul, Nat.zero_add, List.getElem?_append_left (by omega)]
    | succ k =>
      simp at h
      rw [qvVs_cons, List.getElem?_append_right (by omega), hl, show (k + 1) * 3 + j - 3 = k * 3 + j by omega]
      exact ih k j x h hj

theorem qv_cells {w : World} {xs : List Qr} {b off k : Nat} {x : Qr} (hc : ∀ (i : Nat) (y : Value), (qvVs xs)[i]? = some y → w.cell? ⟨b, off + i, none⟩ = some y) (h : xs[k]? = some x) :
    w.cell? ⟨b, off + k * 3, none⟩ = some (.string x.nm) ∧ w.cell? ⟨b, off + k * 3 + 1, none⟩ = some (.int .i64 x.ty) ∧ w.cell? ⟨b, off + k * 3 + 2, none⟩ = some (.int .i64 x.cl) :=
  ⟨hc (k * 3) _ ((qvVs_at xs k 0 x h (by decide)).trans rfl), hc (k * 3 + 1) _ ((qvVs_at xs k 1 x h (by decide)).trans rfl), hc (k * 3 + 2) _ ((qvVs_at xs k 2 x h (by decide)).trans rfl)⟩

def qsum : List Qr → Nat
  | [] => 0
  | x :: xs => x.nm.size + qsum xs
theorem qsum_step : ∀ (xs : List Qr) (k : Nat) (x : Qr), xs[k]? = some x → qsum (xs.take (k + 1)) = qsum (xs.take k) + x.nm.size := by
  intro xs
  induction xs with
  | nil => intro k x h; simp at h
  | cons y xs ih =>
    intro k x h
    cases k with
    | zero => simp at h; subst h; simp [qsum]
    | succ k =>
      simp at h
      have := ih k x h
      simp only [List.take_succ_cons, qsum]; omega
theorem qsum_take_le : ∀ (xs : List Qr) (k : Nat), qsum (xs.take k) ≤ qsum xs := by
  intro xs
  induction xs with
  | nil => intro k; simp [qsum]
  | cons y xs ih =>
    intro k
    cases k with
    | zero => simp [qsum]
    | succ k => have := ih k; simp only [List.take_succ_cons, qsum]; omega
theorem qsum_mem : ∀ (xs : List Qr) (x : Qr), x ∈ xs → x.nm.size ≤ qsum xs := by
  intro xs
  induction xs with
  | nil => intro x h; simp at h
  | cons y xs ih =>
    intro x h
    rcases List.mem_cons.1 h with rfl | h
    · simp only [qsum]; omega
    · have := ih x h; simp only [qsum]; omega
def szQS (xs : List Qr) (L : Int) : Int := if (xs.length : Int) + (qsum xs : Int) ≤ L then L - xs.length - qsum xs else -1
end Go.Proofs.Ytihhchebcojplaa
/- Messages as they come in: mathematics. -/
namespace Go.Proofs.Ytihhchebcojplaa
open Go.RowKit
set_option linter.unusedVariables false

/-- A head. -/
structure Hr where
  id : Int
  qr : Bool
  op : Int
  aa : Bool
  tc : Bool
  rd : Bool
  ra : Bool
  z : Bool
  ad : Bool
  cd : Bool
  code : Int
def hrV (h : Hr) : List Value := [.int .i64 h.id, .bool h.qr, .int .i64 h.op, .bool h.aa, .bool h.tc, .bool h.rd, .bool h.ra, .bool h.z, .bool h.ad, .bool h.cd, .int .i64 h.code]
/-- A message. -/
structure Mg where
  hd : Hr
  qs : List Qr
  an : List Rr
  au : List Rr
  ex : List Rr
/-- A message's value, its lists' slices as they are. -/
def mgV (h : Hr) (q a u x : Value) : Array Value := #[.int .i64 h.id, .bool h.qr, .int .i64 h.op, .bool h.aa, .bool h.tc, .bool h.rd, .bool h.ra, .bool h.z, .bool h.ad, .bool h.cd, .int .i64 h.code, q, a, u, x]
/-- The lists are read where the slices lead. -/
structure MRow (w : World) (m : Mg) (q a u x : Value) : Prop where
  rq : CRow w q m.qs.length 3 (qvVs m.qs)
  ra : CRow w a m.an.length 5 (rvVs m.an)
  ru : CRow w u m.au.length 5 (rvVs m.au)
  rx : CRow w x m.ex.length 5 (rvVs m.ex)
theorem MRow.below {w W : World} {m : Mg} {q a u x : Value} (h : MRow w m q a u x) (hb : Below w.heap.size w W) : MRow W m q a u x := ⟨h.rq.below hb, h.ra.below hb, h.ru.below hb, h.rx.below hb⟩
/-- The lists in memory of one's own. -/
structure MOwn (w : World) (B : Nat) (m : Mg) (q a u x : Value) : Prop where
  rq : w.ownsRow B 53 3 q m.qs.length (qvVs m.qs)
  ra : w.ownsRow B 66 5 a m.an.length (rvVs m.an)
  ru : w.ownsRow B 66 5 u m.au.length (rvVs m.au)
  rx : w.ownsRow B 66 5 x m.ex.length (rvVs m.ex)
theorem MOwn.below {w W : World} {B : Nat} {m : Mg} {q a u x : Value} (h : MOwn w B m q a u x) (hb : Below w.heap.size w W) : MOwn W B m q a u x := ⟨own_below h.rq hb, own_below h.ra hb, own_below h.ru hb, own_below h.rx hb⟩
theorem MOwn.read {w : World} {B : Nat} {m : Mg} {q a u x : Value} (h : MOwn w B m q a u x) : MRow w m q a u x := ⟨CRow.of_owns h.rq, CRow.of_owns h.ra, CRow.of_owns h.ru, CRow.of_owns h.rx⟩
def msum (m : Mg) : Nat := m.qs.length + qsum m.qs + (m.an.length + rsum m.an) + (m.au.length + rsum m.au) + (m.ex.length + rsum m.ex)
def szM (m : Mg) (L : Int) : Int := if (msum m : Int) ≤ L then L - msum m else -1
def MFit (m : Mg) : Prop := (∀ r ∈ m.qs, r.nm.size ≤ maxLen) ∧ (∀ r ∈ m.an, r.own.size ≤ maxLen ∧ r.da.size ≤ maxLen) ∧ (∀ r ∈ m.au, r.own.size ≤ maxLen ∧ r.da.size ≤ maxLen) ∧ (∀ r ∈ m.ex, r.own.size ≤ maxLen ∧ r.da.size ≤ maxLen)
end Go.Proofs.Ytihhchebcojplaa
/- Valid records: mathematics. -/
namespace Go.Proofs.Ytihhchebcojplaa
open Go.RowKit
set_option linter.unusedVariables false

def inB (n m : Int) : Bool := decide (0 ≤ n) && decide (n ≤ m)
def rcOK (r : Rr) : Bool := (Nm.split r.own).isSome && inB r.ty 65535 && inB r.cl 65535 && inB r.tt 4294967295 && (decide (r.da.size = 0) || cutCode r.ty r.da == 0)
theorem all_take' {α : Type} {f : α → Bool} {xs : List α} {k : Nat} {x : α} (h : xs[k]? = some x) : (xs.take (k + 1)).all f = ((xs.take k).all f && f x) := by
  rw [List.take_add_one, h]
  simp
theorem all_no {α : Type} {f : α → Bool} {xs : List α} {x : α} (h : x ∈ xs) (hf : f x = false) : xs.all f = false := by
  rw [List.all_eq_false]
  exact ⟨x, h, by simp [hf]⟩
theorem str_empty {s : ByteArray} : (s.toList == []) = decide (s.size = 0) := by
  by_cases h : s.size = 0
  · have : s.toList = [] := List.length_eq_zero_iff.1 (by rw [Nm.tl_len]; exact h)
    simp [this, h]
  · have : s.toList ≠ [] := fun e => h (by rw [← Nm.tl_len, e]; rfl)
    simp [h, this]
end Go.Proofs.Ytihhchebcojplaa
/- Valid messages: mathematics. -/
namespace Go.Proofs.Ytihhchebcojplaa
open Go.RowKit
set_option linter.unusedVariables false

def hdOK (h : Hr) : Bool := inB h.id 65535 && inB h.op 15 && inB h.code 15
def quOK (q : Qr) : Bool := (Nm.split q.nm).isSome && inB q.ty 65535 && inB q.cl 65535
def mgOK (m : Mg) : Bool := decide (m.qs.length + m.an.length + m.au.length + m.ex.length ≤ 400) && hdOK m.hd && m.qs.all quOK && m.an.all rcOK && m.au.all rcOK && m.ex.all rcOK
end Go.Proofs.Ytihhchebcojplaa
/- How a record is written: mathematics. -/
namespace Go.Proofs.Ytihhchebcojplaa
open Go.RowKit
set_option linter.unusedVariables false

def nmX (x : ByteArray) (s : Wst) : Wst := nmW ((Nm.split x).getD []) s.1 s.2
theorem nmX_of {x : ByteArray} {ls : List ByteArray} (h : Nm.split x = some ls) (s : Wst) : nmX x s = nmW ls s.1 s.2 := by rw [nmX, h]; rfl
theorem nmX_len {x : ByteArray} (h : (Nm.split x).isSome = true) (s : Wst) : s.1.length + 1 ≤ (nmX x s).1.length ∧ (nmX x s).1.length ≤ s.1.length + x.size := by
  obtain ⟨ls, hs⟩ := Option.isSome_iff_exists.1 h
  rw [nmX_of hs]
  have h1 := nmW_len ls s.1 s.2 (fun x hx => ((Nm.split_join hs).2 x hx).1)
  have h2 : x.size = Nm.wsum ls + 1 := by rw [← nmB_split hs, nmB_size]
  omega
theorem nmX_ok (x : ByteArray) (s : Wst) (h : PlOK s.2 s.1.length) : PlOK (nmX x s).2 (nmX x s).1.length := nmW_ok _ _ _ h

/-- Data by its parts. -/
def daP : List Dt.Pc → List ByteArray → Wst → Wst
  | p :: fs, x :: xs, s => daP fs xs (if p.isN then nmX x s else (s.1 ++ x.data.toList, s.2))
  | _, _, s => s
theorem daP_nil (fs : List Dt.Pc) (s : Wst) : daP fs [] s = s := by cases fs <;> rfl
def NmOK (fs : List Dt.Pc) (ps : List ByteArray) : Prop := ∀ (i : Nat) (p : Dt.Pc) (x : ByteArray), fs[i]? = some p → ps[i]? = some x → p.isN = true → (Nm.split x).isSome = true
theorem NmOK.tail {p : Dt.Pc} {x : ByteArray} {fs : List Dt.Pc} {ps : List ByteArray} (h : NmOK (p :: fs) (x :: ps)) : NmOK fs ps := fun i q y hq hy hn => h (i + 1) q y (by simpa using hq) (by simpa using hy) hn
theorem daP_len : ∀ (fs : List Dt.Pc) (ps : List ByteArray) (s : Wst), NmOK fs ps → s.1.length ≤ (daP fs ps s).1.length ∧ (daP fs ps s).1.length ≤ s.1.length + (Dt.catL ps).length := by
  intro fs
  induction fs with
  | nil => intro ps s h; simp [daP]
  | cons p fs ih =>
    intro ps s h
    cases ps with
    | nil => simp [daP]
    | cons x xs =>
      have e : (Dt.catL (x :: xs)).length = x.size + (Dt.catL xs).length := by simp [Dt.catL]
      rw [daP, e]
      have := ih xs (if p.isN then nmX x s else (s.1 ++ x.data.toList, s.2)) h.tail
      cases hN : p.isN with
      | true =>
        rw [hN] at this
        simp only [if_true] at this ⊢
        have h2 := nmX_len (h 0 p x rfl rfl hN) s
        omega
      | false =>
        rw [hN] at this
        simp at this ⊢
        omega
theorem daP_ok : ∀ (fs : List Dt.Pc) (ps : List ByteArray) (s : Wst), PlOK s.2 s.1.length → PlOK (daP fs ps s).2 (daP fs ps s).1.length := by
  intro fs
  induction fs with
  | nil => intro ps s h; exact h
  | cons p fs ih =>
    intro ps s h
    cases ps with
    | nil => exact h
    | cons x xs =>
      rw [daP]
      apply ih
      split
      · exact nmX_ok x s h
      · exact h.mono (by simp)
/-- Data by the places of its names. -/
def daS : List (Nat × Nat) → Nat → ByteArray → Wst → Wst
  | [], a, d, s => (s.1 ++ (d.extract a d.size).data.toList, s.2)
  | (f, t) :: r, a, d, s => daS r t d (nmX (d.extract f t) (s.1 ++ (d.extract a f).data.toList, s.2))

theorem ex_list (d : ByteArray) (a b : Nat) : (d.extract a b).data.toList = (d.data.toList.drop a).take (b - a) := by
  simp [ByteArray.data_extract, Array.toList_extract, List.extract_eq_take_drop]
theorem daS_parts : ∀ (fs : List Dt.Pc) (ps : List ByteArray) (a a0 : Nat) (d : ByteArray) (s : Wst), fs.length = ps.length → a0 ≤ a → a ≤ d.size → Dt.catL ps = d.data.toList.drop a →
    daS (Dt.spansOf fs ps a) a0 d s = daP fs ps (s.1 ++ (d.extract a0 a).data.toList, s.2) := by
  intro fs
  induction fs with
  | nil =>
    intro ps a a0 d s hl h0 h1 hc
    obtain rfl : ps = [] := List.length_eq_zero_iff.1 (by simpa using hl.symm)
    have hd : d.data.toList.drop a = [] := by rw [← hc]; rfl
    have hz : d.size ≤ a := by simpa [List.drop_eq_nil_iff] using hd
    obtain rfl : a = d.size := by omega
    rfl
  | cons p fs ih =>
    intro ps a a0 d s hl h0 h1 hc
    cases ps with
    | nil => simp at hl
    | cons x xs =>
      have e : Dt.catL (x :: xs) = x.data.toList ++ Dt.catL xs := by simp [Dt.catL]
      rw [e] at hc
      have hxl : x.data.toList.length = x.size := by simp
      have hsz : x.size + (Dt.catL xs).length = d.size - a := by
        have := congrArg List.length hc
        simp at this
        simpa using this
      have hc2 : Dt.catL xs = d.data.toList.drop (a + x.size) := by
        rw [← List.drop_drop, ← hc, List.drop_left' hxl]
      have hx : d.extract a (a + x.size) = x := by
        apply Nm.ba_ext
        rw [ex_list, ← hc, show a + x.size - a = x.size by omega, List.take_left' hxl]
      have hl2 : fs.length = xs.length := by simpa using hl
      rw [Dt.spansOf, daP]
      cases hN : p.isN with
      | true =>
        simp only [if_true]
        rw [daS, hx, ih xs (a + x.size) (a + x.size) d _ hl2 (Nat.le_refl _) (by omega) hc2]
        have he : (d.extract (a + x.size) (a + x.size)).data.toList = [] := by rw [ex_list]; simp
        rw [he, List.append_nil]
      | false =>
        simp only [Bool.false_eq_true, if_false]
        rw [ih xs (a + x.size) a0 d s hl2 (by omega) (by omega) hc2]
        congr 1
        have he : (d.extract a0 (a + x.size)).data.toList = (d.extract a0 a).data.toList ++ x.data.toList := by
          have hx2 : x.data.toList = (d.data.toList.drop a).take x.size := by rw [← hc, List.take_left' hxl]
          rw [hx2, ex_list, ex_list, show a + x.size - a0 = (a - a0) + x.size by omega, List.take_add, List.drop_drop, show a0 + (a - a0) = a by omega]
        rw [he, List.append_assoc]

/-- A record's data. -/
def daW (t : Nat) (d : ByteArray) (s : Wst) : Wst :=
  if d.size = 0 ∨ ¬ pointed t then (s.1 ++ d.data.toList, s.2) else daP (Dt.specP t) ((Dt.parts (Dt.specP t) d).getD []) s
def rrA (o : ByteArray) (ty cl : Nat) (tt : Int) (s : Wst) : Wst := ((nmX o s).1 ++ (put2 ty ++ put2 cl ++ put4 tt ++ [0, 0]), (nmX o s).2)
def rrFin (F : Nat) (s : Wst) : Wst := ((s.1.set (F - 2) (UInt8.ofNat ((s.1.length - F) / 256))).set (F - 1) (UInt8.ofNat ((s.1.length - F) % 256)), s.2)
/-- A record. -/
def rrW (r : Rr) (s : Wst) : Wst := rrFin (rrA r.own r.ty.toNat r.cl.toNat r.tt s).1.length (daW r.ty.toNat r.da (rrA r.own r.ty.toNat r.cl.toNat r.tt s))

theorem inB_nat {n m : Int} (h : inB n m = true) : ∃ k : Nat, n = (k : Int) ∧ (k : Int) ≤ m := by
  simp [inB] at h
  exact ⟨n.toNat, by omega, by omega⟩
/-- What a good record says. -/
theorem rc_parts {r : Rr} (h : rcOK r = true) : (Nm.split r.own).isSome = true ∧ (∃ t : Nat, r.ty = (t : Int) ∧ t < 65536) ∧ (∃ c : Nat, r.cl = (c : Int) ∧ c < 65536) ∧ 0 ≤ r.tt ∧ r.tt ≤ 4294967295 ∧ (r.da.size = 0 ∨ cutCode r.ty r.da = 0) ∧ r.da.size ≤ 65535 := by
  simp only [rcOK, Bool.and_eq_true, Bool.or_eq_true, decide_eq_true_eq, beq_iff_eq] at h
  obtain ⟨⟨⟨⟨h1, h2⟩, h3⟩, h4⟩, h5⟩ := h
  obtain ⟨t, ht, htl⟩ := inB_nat h2
  obtain ⟨c, hc, hcl⟩ := inB_nat h3
  simp [inB] at h4
  refine ⟨h1, ⟨t, ht, by omega⟩, ⟨c, hc, by omega⟩, h4.1, h4.2, h5, ?_⟩
  rcases h5 with h5 | h5
  · omega
  · obtain ⟨ps, _, _, hz⟩ := good_parts h5
    exact hz
theorem daW_len {t : Nat} {d : ByteArray} (h : d.size = 0 ∨ cutCode t d = 0) (s : Wst) : s.1.length ≤ (daW t d s).1.length ∧ (daW t d s).1.length ≤ s.1.length + d.size := by
  rw [daW]
  split
  · simp
  · rename_i hn
    have hc : cutCode t d = 0 := by rcases h with h | h; exact absurd (.inl h) hn; exact h
    obtain ⟨ps, h1, h2, h3⟩ := good_parts hc
    obtain ⟨p1, p2, p3⟩ := Dt.parts_cat _ _ _ h1
    have := daP_len (Dt.specP t) ps s p3
    rw [h1]
    rw [p2] at this
    simpa using this
theorem daW_ok (t : Nat) (d : ByteArray) (s : Wst) (h : PlOK s.2 s.1.length) : PlOK (daW t d s).2 (daW t d s).1.length := by
  rw [daW]
  split
  · exact h.mono (by simp)
  · exact daP_ok _ _ _ h
theorem rrA_len {o : ByteArray} (h : (Nm.split o).isSome = true) (ty cl : Nat) (tt : Int) (s : Wst) : s.1.length + 11 ≤ (rrA o ty cl tt s).1.length ∧ (rrA o ty cl tt s).1.length ≤ s.1.length + o.size + 10 := by
  have := nmX_len h s
  simp [rrA, put2, put4]
  omega
theorem rrA_ok (o : ByteArray) (ty cl : Nat) (tt : Int) (s : Wst) (h : PlOK s.2 s.1.length) : PlOK (rrA o ty cl tt s).2 (rrA o ty cl tt s).1.length := (nmX_ok o s h).mono (by simp [rrA])
theorem rrFin_len (F : Nat) (s : Wst) : (rrFin F s).1.length = s.1.length := by simp [rrFin]
theorem name_short {o : ByteArray} (h : (Nm.split o).isSome = true) : o.size ≤ 255 := by
  obtain ⟨ls, hs⟩ := Option.isSome_iff_exists.1 h
  exact (Nm.split_size hs).2
theorem rrW_len {r : Rr} (h : rcOK r = true) (s : Wst) : s.1.length ≤ (rrW r s).1.length ∧ (rrW r s).1.length ≤ s.1.length + 65800 := by
  obtain ⟨h1, ⟨t, ht, htl⟩, ⟨c, hc, hcl⟩, h4, h5, h6, h7⟩ := rc_parts h
  have hs := name_short h1
  have a := rrA_len h1 t c r.tt s
  rw [rrW, rrFin_len, ht, hc]
  rw [ht] at h6
  have b := daW_len h6 (rrA r.own t c r.tt s)
  simp only [Int.toNat_natCast]
  omega
theorem rrW_ok (r : Rr) (s : Wst) (h : PlOK s.2 s.1.length) : PlOK (rrW r s).2 (rrW r s).1.length := by
  rw [rrW, rrFin_len]
  exact daW_ok _ _ _ (rrA_ok _ _ _ _ _ h)
/-- Records one behind the other. -/
def rrWs (l : List Rr) (s : Wst) : Wst := l.foldl (fun s r => rrW r s) s
theorem rrWs_cons (r : Rr) (l : List Rr) (s : Wst) : rrWs (r :: l) s = rrWs l (rrW r s) := rfl
theorem rrWs_len : ∀ (l : List Rr) (s : Wst), l.all rcOK = true → s.1.length ≤ (rrWs l s).1.length ∧ (rrWs l s).1.length ≤ s.1.length + 65800 * l.length := by
  intro l
  induction l with
  | nil => intro s h; simp [rrWs]
  | cons r l ih =>
    intro s h
    simp only [List.all_cons, Bool.and_eq_true] at h
    rw [rrWs_cons]
    have a := ih (rrW r s) h.2
    have b := rrW_len h.1 s
    simp only [List.length_cons]
    omega
theorem rrWs_ok : ∀ (l : List Rr) (s : Wst), PlOK s.2 s.1.length → PlOK (rrWs l s).2 (rrWs l s).1.length := by
  intro l
  induction l with
  | nil => intro s h; exact h
  | cons r l ih => intro s h; exact ih _ (rrW_ok r s h)
/-- A record that the model's writer takes. -/
def rcW (r : Rr) : Prop := (Nm.split r.own).isSome = true ∧ (∃ t : Nat, r.ty = (t : Int) ∧ t < 65536) ∧ (∃ c : Nat, r.cl = (c : Int) ∧ c < 65536) ∧ 0 ≤ r.tt ∧ r.tt ≤ 4294967295 ∧ (r.da.size = 0 ∨ ¬ pointed r.ty.toNat ∨ cutCode r.ty r.da = 0) ∧ r.da.size ≤ 65535
theorem rc_w {r : Rr} (h : rcOK r = true) : rcW r := by
  obtain ⟨h1, h2, h3, h4, h5, h6, h7⟩ := rc_parts h
  exact ⟨h1, h2, h3, h4, h5, h6.elim .inl (fun e => .inr (.inr e)), h7⟩
theorem daW_lenW {t : Nat} {d : ByteArray} (h : d.size = 0 ∨ ¬ pointed t ∨ cutCode t d = 0) (s : Wst) : s.1.length ≤ (daW t d s).1.length ∧ (daW t d s).1.length ≤ s.1.length + d.size := by
  rcases h with h | h | h
  · exact daW_len (.inl h) s
  · rw [daW, if_pos (.inr h)]
    simp
  · exact daW_len (.inr h) s
theorem rrW_lenW {r : Rr} (h : rcW r) (s : Wst) : s.1.length ≤ (rrW r s).1.length ∧ (rrW r s).1.length ≤ s.1.length + 65800 := by
  obtain ⟨h1, ⟨t, ht, htl⟩, ⟨c, hc, hcl⟩, h4, h5, h6, h7⟩ := h
  have hs := name_short h1
  have a := rrA_len h1 t c r.tt s
  rw [rrW, rrFin_len, ht, hc]
  rw [ht] at h6
  simp only [Int.toNat_natCast] at h6 ⊢
  have b := daW_lenW h6 (rrA r.own t c r.tt s)
  omega
end Go.Proofs.Ytihhchebcojplaa
/- A name at the beginning of bytes: mathematics. -/
namespace Go.Proofs.Ytihhchebcojplaa
open Go.RowKit
set_option linter.unusedVariables false

theorem nameF_app (x r : ByteArray) : ∀ (f i : Nat), (Dt.nameF f x i).size ≠ 0 → Dt.nameF f (x ++ r) i = Dt.nameF f x i := by
  intro f
  induction f with
  | zero => intro i h; simp [Dt.nameF] at h
  | succ f ih =>
    intro i h
    rw [Dt.nameF] at h ⊢
    rw [Dt.nameF]
    by_cases h1 : i < x.size ∧ i < 255
    · rw [dif_pos h1] at h ⊢
      have h2 : i < (x ++ r).size ∧ i < 255 := by rw [ByteArray.size_append]; omega
      have hg : (x ++ r)[i] = x[i] := by
        have e1 : (x ++ r).data.toList[i]? = some (x ++ r)[i] := Nm.get_data h2.1
        have e2 : x.data.toList[i]? = some x[i] := Nm.get_data h1.1
        rw [ByteArray.data_append, Array.toList_append, List.getElem?_append_left (by simpa using h1.1), e2] at e1
        exact (Option.some.inj e1).symm
      rw [dif_pos h2, hg]
      by_cases h3 : x[i].toNat = 0
      · rw [if_pos h3, if_pos h3]
        apply Nm.ba_ext
        rw [ex_list, ex_list, ByteArray.data_append, Array.toList_append]
        simp only [List.drop_zero]
        rw [List.take_append_of_le_length (by simp; omega)]
      · rw [if_neg h3] at h ⊢
        rw [if_neg h3]
        by_cases h4 : 63 < x[i].toNat
        · rw [if_pos h4] at h; simp at h
        · rw [if_neg h4] at h ⊢
          rw [if_neg h4]
          exact ih _ h
    · rw [dif_neg h1] at h; simp at h
theorem nameAt_app {x r : ByteArray} (h : (Nm.split x).isSome = true) : Dt.nameAtS (x ++ r) = x := by
  obtain ⟨h1, h2⟩ := (Dt.name_iff x).1 h
  have e : Dt.nameAtS x = x := by
    have := Dt.name_ext x h1
    rw [← this, h2, Dt.ext_all]
  rw [Dt.nameAtS, nameF_app x r 256 0 h1]
  exact e

def bA (l : List UInt8) : ByteArray := ⟨l.toArray⟩
theorem bA_data (l : List UInt8) : (bA l).data.toList = l := by simp [bA]
theorem bA_size (l : List UInt8) : (bA l).size = l.length := by
  show l.toArray.size = l.length
  simp
theorem bA_app (a b : List UInt8) : bA (a ++ b) = bA a ++ bA b := by apply Nm.ba_ext; simp [bA]
end Go.Proofs.Ytihhchebcojplaa
