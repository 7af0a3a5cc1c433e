import Derived.Test.YtoiajlgmnkoekaaJMapM
/- The pieces of a form of data, as plain mathematics. -/
namespace Go.Proofs.Ytoiajlgmnkoekaa.Dt
open Go.RowKit

/-- How many bytes of short texts stand behind one another at the beginning. -/
def txsF : Nat → ByteArray → Nat
  | 0, _ => 0
  | f + 1, d => if (txtS d).size = 0 then 0 else (txtS d).size + txsF f (d.extract (txtS d).size d.size)

theorem txt_le (d : ByteArray) : (txtS d).size ≤ d.size := by
  unfold txtS
  split
  · split
    · simp; omega
    · simp
  · simp

theorem txsF_enough : ∀ (f g : Nat) (d : ByteArray), d.size < f → d.size < g → txsF f d = txsF g d := by
  intro f
  induction f with
  | zero => intro g d hf; omega
  | succ f ih =>
    intro g d hf hg
    cases g with
    | zero => omega
    | succ g =>
      rw [txsF, txsF]
      by_cases h : (txtS d).size = 0
      · rw [if_pos h, if_pos h]
      · have := txt_le d
        rw [if_neg h, if_neg h, ih g _ (by simp; omega) (by simp; omega)]

def txsS (d : ByteArray) : Nat := txsF (d.size + 1) d

theorem txs_none {d : ByteArray} (h : (txtS d).size = 0) : txsS d = 0 := by rw [txsS, txsF, if_pos h]
theorem txs_step {d : ByteArray} (h : (txtS d).size ≠ 0) : txsS d = (txtS d).size + txsS (d.extract (txtS d).size d.size) := by
  have := txt_le d
  rw [txsS, txsF, if_neg h, txsF_enough _ ((d.extract (txtS d).size d.size).size + 1) _ (by simp; omega) (by simp)]
  rfl

theorem txsF_le : ∀ (f : Nat) (d : ByteArray), txsF f d ≤ d.size := by
  intro f
  induction f with
  | zero => intro d; simp [txsF]
  | succ f ih =>
    intro d
    rw [txsF]
    split
    · omega
    · have := ih (d.extract (txtS d).size d.size)
      have h2 := txt_le d
      simp at this
      omega
theorem txs_le (d : ByteArray) : txsS d ≤ d.size := txsF_le _ d

def tagB (d : ByteArray) : Bool := decide (2 ≤ (txtS d).size) && decide ((txtS d).size ≤ 16) && ((txtS d).data.toList.drop 1).all alnumB

/-- The pieces of a form: a name, so many bytes, a short text, short texts, short texts up to the end, a tag, a tag and the rest, a type map, the rest. -/
abbrev Pc : Type := Option (Option (Option (Option (Option (Option (Option (Option Nat)))))))
abbrev Pc.nm : Pc := none
abbrev Pc.tx : Pc := some none
abbrev Pc.txs : Pc := some (some none)
abbrev Pc.txe : Pc := some (some (some none))
abbrev Pc.tag : Pc := some (some (some (some none)))
abbrev Pc.tagr : Pc := some (some (some (some (some none))))
abbrev Pc.mp : Pc := some (some (some (some (some (some none)))))
abbrev Pc.rs : Pc := some (some (some (some (some (some (some none))))))
abbrev Pc.bs (n : Nat) : Pc := some (some (some (some (some (some (some (some n)))))))

theorem Pc.elim {P : Pc → Prop} (p : Pc) (nm : P Pc.nm) (bs : ∀ n, P (Pc.bs n)) (tx : P Pc.tx) (txs : P Pc.txs) (txe : P Pc.txe) (tag : P Pc.tag) (tagr : P Pc.tagr) (mp : P Pc.mp) (rs : P Pc.rs) : P p := by
  rcases p with _ | _ | _ | _ | _ | _ | _ | _ | n
  · exact nm
  · exact tx
  · exact txs
  · exact txe
  · exact tag
  · exact tagr
  · exact mp
  · exact rs
  · exact bs n

def Pc.isN : Pc → Bool
  | none => true
  | some _ => false

/-- How many bytes the piece has that stands at the beginning; none: it does not stand there. -/
def sz : Pc → ByteArray → Option Nat
  | none, d => if (nameAtS d).size = 0 then none else some (nameAtS d).size
  | some none, d => if (txtS d).size = 0 then none else some (txtS d).size
  | some (some none), d => if txsS d = 0 then none else some (txsS d)
  | some (some (some none)), d => if txsS d = 0 ∨ txsS d ≠ d.size then none else some d.size
  | some (some (some (some none))), d => if tagB d then some (txtS d).size else none
  | some (some (some (some (some none)))), d => if tagB d then some d.size else none
  | some (some (some (some (some (some none))))), d => if mapS d then some d.size else none
  | some (some (some (some (some (some (some none)))))), d => some d.size
  | some (some (some (some (some (some (some (some n))))))), d => if n ≤ d.size then some n else none

theorem nameF_le : ∀ (f : Nat) (s : ByteArray) (i : Nat), (nameF f s i).size ≤ s.size := by
  intro f
  induction f with
  | zero => intro s i; simp [nameF]
  | succ f ih =>
    intro s i
    rw [nameF]
    split
    · split
      · simp; omega
      · split
        · simp
        · exact ih _ _
    · simp
theorem name_le (s : ByteArray) : (nameAtS s).size ≤ s.size := nameF_le _ _ _

theorem sz_le {p : Pc} {d : ByteArray} {n : Nat} (h : sz p d = some n) : n ≤ d.size := by
  have h1 := name_le d
  have h2 := txt_le d
  have h3 := txs_le d
  cases p using Pc.elim <;> simp only [sz] at h
  all_goals first
    | (split at h
       · simp at h
       · simp at h; omega)
    | (split at h
       · simp at h; omega
       · simp at h)
    | (simp at h; omega)

/-- The parts of data, by a form; none: it has not the form. -/
def parts : List Pc → ByteArray → Option (List ByteArray)
  | [], d => if d.size = 0 then some [] else none
  | p :: r, d =>
    match sz p d with
    | none => none
    | some n => (parts r (d.extract n d.size)).map (fun l => d.extract 0 n :: l)

/-- Where the names stand in data whose first byte is the a-th. -/
def spans : List Pc → Nat → ByteArray → Option (List (Nat × Nat))
  | [], _, d => if d.size = 0 then some [] else none
  | p :: r, a, d =>
    match sz p d with
    | none => none
    | some n => (spans r (a + n) (d.extract n d.size)).map (fun l => if p.isN then (a, a + n) :: l else l)

def spansOf : List Pc → List ByteArray → Nat → List (Nat × Nat)
  | p :: r, x :: xs, a => if p.isN then (a, a + x.size) :: spansOf r xs (a + x.size) else spansOf r xs (a + x.size)
  | _, _, _ => []

theorem spans_of_parts : ∀ (fs : List Pc) (d : ByteArray) (a : Nat), spans fs a d = (parts fs d).map (fun ps => spansOf fs ps a) := by
  intro fs
  induction fs with
  | nil => intro d a; rw [spans, parts]; split <;> simp [spansOf]
  | cons p r ih =>
    intro d a
    rw [spans, parts]
    cases h : sz p d with
    | none => simp
    | some n =>
      have hn := sz_le h
      simp only [ih]
      cases parts r (d.extract n d.size) with
      | none => simp
      | some l =>
        have : (d.extract 0 n).size = n := by simp; omega
        simp [spansOf, this]

theorem spans_bs (m n : Nat) (r : List Pc) (a : Nat) (d : ByteArray) : spans (.bs m :: .bs n :: r) a d = spans (.bs (m + n) :: r) a d := by
  rw [spans, spans]
  simp only [sz]
  by_cases h : m ≤ d.size
  · rw [if_pos h]
    simp only [spans, sz]
    have e : (d.extract m d.size).size = d.size - m := by simp
    rw [e]
    by_cases h2 : m + n ≤ d.size
    · rw [if_pos (by omega), if_pos h2]
      have e2 : (d.extract m d.size).extract n (d.size - m) = d.extract (m + n) d.size := by
        rw [ByteArray.extract_extract]
        congr 1
        omega
      simp only [e2, Pc.isN, Nat.add_assoc]
      simp
    · rw [if_neg (by omega), if_neg h2]; simp
  · rw [if_neg h, if_neg (by omega)]

theorem spans_tag (a : Nat) (d : ByteArray) : spans [.tagr] a d = spans [.tag, .rs] a d := by
  have h2 := txt_le d
  simp only [spans, sz]
  by_cases h : tagB d
  · simp [h, Pc.isN]
  · simp [h]

theorem spans_txs (a : Nat) (d : ByteArray) : spans [.txs] a d = spans [.txe] a d := by
  have h3 := txs_le d
  simp only [spans, sz]
  by_cases h : txsS d = 0
  · simp [h]
  · by_cases h2 : txsS d = d.size
    · have h4 : d.size ≠ 0 := by omega
      simp [h2, h4, Pc.isN]
    · simp [h, h2]
      omega

/-- A form's letter as a piece. -/
def letP (c : UInt8) : Pc :=
  if c = 110 then .nm else if c = 98 then .bs 1 else if c = 116 then .tx else if c = 115 then .txs else if c = 99 then .tagr else if c = 109 then .mp else .rs

def specP (t : Int) : List Pc := (formS t).data.toList.map letP

def implP (t : Int) : List Pc :=
  if t = 1 then [.bs 4]
  else if t = 28 then [.bs 16]
  else if t = 2 ∨ t = 5 ∨ t = 12 ∨ t = 39 then [.nm]
  else if t = 15 then [.bs 2, .nm]
  else if t = 6 then [.nm, .nm, .bs 20]
  else if t = 33 then [.bs 6, .nm]
  else if t = 16 then [.txe]
  else if t = 13 then [.tx, .tx]
  else if t = 35 then [.bs 4, .tx, .tx, .tx, .nm]
  else if t = 257 then [.bs 1, .tag, .rs]
  else if t = 47 then [.nm, .mp]
  else [.rs]

theorem spans_cons {p : Pc} {r r' : List Pc} (h : ∀ a d, spans r a d = spans r' a d) (a : Nat) (d : ByteArray) : spans (p :: r) a d = spans (p :: r') a d := by
  rw [spans, spans]
  cases sz p d with
  | none => rfl
  | some n => simp only [h]

theorem forms_agree (t : Int) (a : Nat) (d : ByteArray) : spans (specP t) a d = spans (implP t) a d := by
  unfold specP implP formS
  by_cases h1 : t = 1
  · subst h1; simp [letP, spans_bs]
  by_cases h2 : t = 2 ∨ t = 5 ∨ t = 12 ∨ t = 39
  · have : t ≠ 28 := by omega
    simp [h1, h2, this, letP]
  by_cases h3 : t = 6
  · subst h3
    simp [letP]
    refine spans_cons (fun a d => ?_) a d
    refine spans_cons (fun a d => ?_) a d
    simp [spans_bs]
  by_cases h4 : t = 13
  · subst h4; simp [letP]
  by_cases h5 : t = 15
  · subst h5; simp [letP, spans_bs]
  by_cases h6 : t = 16
  · subst h6; simp [letP, spans_txs]
  by_cases h7 : t = 28
  · subst h7; simp [letP, spans_bs]
  by_cases h8 : t = 33
  · subst h8; simp [letP, spans_bs]
  by_cases h9 : t = 35
  · subst h9; simp [letP, spans_bs]
  by_cases h10 : t = 47
  · subst h10; simp [letP]
  by_cases h11 : t = 257
  · subst h11
    simp [letP]
    exact spans_cons (fun a d => spans_tag a d) a d
  simp [h1, h2, h3, h4, h5, h6, h7, h8, h9, h10, h11, letP]
end Go.Proofs.Ytoiajlgmnkoekaa.Dt
