/- What ReadV6 answers: mathematics. -/
import Derived.Test.YtakonfkefoeenafDoorV4M
import Derived.Test.YtakonfkefoeenafDoorHexV
namespace Go.Proofs.YtakonfkefoeenafDoor
open Go.RowKit

def isHex (c : UInt8) : Bool := decide (0 ≤ hexV c)
theorem hexV_lt (c : UInt8) : hexV c < 16 ∧ -1 ≤ hexV c := by
  unfold hexV
  split
  · rename_i h; simp [Nm.digB] at h; omega
  · split
    · omega
    · split <;> omega
/-- The number of digits of base 16. -/
def hexN (l : List UInt8) : Nat := l.foldl (fun n c => n * 16 + (hexV c).toNat) 0
theorem hexN_snoc (l : List UInt8) (c : UInt8) : hexN (l ++ [c]) = hexN l * 16 + (hexV c).toNat := by simp [hexN]
theorem hexN_lt (l : List UInt8) : hexN l < 16 ^ l.length := by
  have key : ∀ (l : List UInt8) (a : Nat), l.foldl (fun n c => n * 16 + (hexV c).toNat) a < (a + 1) * 16 ^ l.length := by
    intro l
    induction l with
    | nil => intro a; simp
    | cons c l ih =>
      intro a
      have hc := hexV_lt c
      rw [List.foldl_cons, List.length_cons, Nat.pow_succ]
      refine Nat.lt_of_lt_of_le (ih _) ?_
      have h1 : a * 16 + (hexV c).toNat + 1 ≤ (a + 1) * 16 := by omega
      have h2 := Nat.mul_le_mul_right (16 ^ l.length) h1
      have h3 : (a + 1) * 16 * 16 ^ l.length = (a + 1) * (16 ^ l.length * 16) := by rw [Nat.mul_assoc, Nat.mul_comm 16]
      omega
  have := key l 0
  rw [Nat.zero_add, Nat.one_mul] at this
  exact this
theorem hexN_small {l : List UInt8} (h : l.length ≤ 4) : hexN l < 65536 := by
  have h1 := hexN_lt l
  have h2 : 16 ^ l.length ≤ 16 ^ 4 := Nat.pow_le_pow_right (by decide) h
  have h3 : (16 : Nat) ^ 4 = 65536 := by decide
  omega
def grpO (p : ByteArray) : Option Nat := if 1 ≤ p.size ∧ p.size ≤ 4 ∧ p.data.toList.all isHex = true then some (hexN p.data.toList) else none
theorem grpO_len {p : ByteArray} (h : ¬ (1 ≤ p.size ∧ p.size ≤ 4)) : grpO p = none := by rw [grpO, if_neg (fun h' => h ⟨h'.1, h'.2.1⟩)]
theorem grpO_bad {p : ByteArray} {k : Nat} (hk : k < p.size) (h : hexV p[k] < 0) : grpO p = none := by
  rw [grpO, if_neg]
  rintro ⟨_, _, h3⟩
  have := List.all_eq_true.1 h3 p[k] (List.mem_of_getElem? (Nm.get_data hk))
  simp [isHex] at this
  omega
theorem grpO_good {p : ByteArray} (h1 : 1 ≤ p.size) (h2 : p.size ≤ 4) (h : ∀ j, (hj : j < p.size) → 0 ≤ hexV p[j]) : grpO p = some (hexN p.data.toList) := by
  rw [grpO, if_pos]
  refine ⟨h1, h2, ?_⟩
  rw [List.all_eq_true]
  intro c hc
  obtain ⟨i, hi⟩ := List.getElem?_of_mem hc
  have hl : i < p.size := by
    have := (List.getElem?_eq_some_iff.1 hi).1
    simpa using this
  rw [Nm.get_data hl] at hi
  simp at hi
  rw [← hi]
  simp [isHex]
  exact h _ hl
theorem grpO_lt {p : ByteArray} {n : Nat} (h : grpO p = some n) : n < 65536 := by
  unfold grpO at h
  by_cases hc : 1 ≤ p.size ∧ p.size ≤ 4 ∧ p.data.toList.all isHex = true
  · rw [if_pos hc] at h
    have := hexN_small (l := p.data.toList) (by simp; omega)
    rw [← Option.some.inj h]
    exact this
  · rw [if_neg hc] at h; cases h

def put2 (n : Nat) : List UInt8 := [UInt8.ofNat (n / 256), UInt8.ofNat (n % 256)]
/-- A part of an address of sixteen bytes. -/
def gPart (p : ByteArray) (last : Bool) : Option (List UInt8) :=
  if last = true ∧ (readV4S p).2 = 0 then some (readV4S p).1.data.toList else (grpO p).map put2
def gFrom (last : Bool) : List ByteArray → Option (List UInt8)
  | [] => some []
  | p :: r => match gPart p (last && r.isEmpty) with
    | none => none
    | some b => (gFrom last r).map (fun t => b ++ t)
def GAt (last : Bool) (ls : List ByteArray) (k : Nat) (o : List UInt8) : Prop := gFrom last ls = (gFrom last (ls.drop k)).map (fun t => o ++ t)
theorem g_start (last : Bool) (ls : List ByteArray) : GAt last ls 0 [] := by simp [GAt]
theorem drop_at' {ls : List ByteArray} {k : Nat} {p : ByteArray} (hp : ls[k]? = some p) : ls.drop k = p :: ls.drop (k + 1) ∧ (ls.drop (k + 1)).isEmpty = decide (k + 1 = ls.length) := by
  have hk : k < ls.length := (List.getElem?_eq_some_iff.1 hp).1
  have hx : ls[k] = p := (List.getElem?_eq_some_iff.1 hp).2
  refine ⟨by rw [List.drop_eq_getElem_cons hk, hx], ?_⟩
  rw [Bool.eq_iff_iff, List.isEmpty_iff, decide_eq_true_eq, List.drop_eq_nil_iff]
  omega
theorem g_next {last : Bool} {ls : List ByteArray} {k : Nat} {o b : List UInt8} {p : ByteArray} (h : GAt last ls k o) (hp : ls[k]? = some p) (hb : gPart p (last && decide (k + 1 = ls.length)) = some b) : GAt last ls (k + 1) (o ++ b) := by
  obtain ⟨e1, e2⟩ := drop_at' hp
  rw [GAt] at h ⊢
  rw [h, e1, gFrom, e2, hb]
  simp only [Option.map_map]
  congr 1; funext t; simp
theorem g_bad {last : Bool} {ls : List ByteArray} {k : Nat} {o : List UInt8} {p : ByteArray} (h : GAt last ls k o) (hp : ls[k]? = some p) (hb : gPart p (last && decide (k + 1 = ls.length)) = none) : gFrom last ls = none := by
  obtain ⟨e1, e2⟩ := drop_at' hp
  rw [GAt] at h
  rw [h, e1, gFrom, e2, hb]; rfl
theorem g_end {last : Bool} {ls : List ByteArray} {k : Nat} {o : List UInt8} (h : GAt last ls k o) (hk : ls.length ≤ k) : gFrom last ls = some o := by
  rw [GAt, List.drop_eq_nil_of_le hk] at h
  rw [h]; simp [gFrom]

/-- An address of four bytes has four. -/
theorem v4_four {p : ByteArray} (h : (readV4S p).2 = 0) : (readV4S p).1.data.toList.length = 4 := by
  have key : ∀ (ls : List ByteArray) (l : List UInt8), v4All ls = some l → l.length = ls.length := by
    intro ls
    induction ls with
    | nil => intro l h; simp [v4All] at h; subst h; rfl
    | cons p r ih =>
      intro l h
      rw [v4All] at h
      cases hp : v4Part p with
      | none => rw [hp] at h; cases h
      | some n =>
        rw [hp] at h
        cases hr : v4All r with
        | none => rw [hr] at h; cases h
        | some t =>
          rw [hr] at h
          simp at h
          subst h
          simp [ih t hr]
  unfold readV4S at h ⊢
  split at h
  · rename_i h4
    rw [if_pos h4]
    cases hv : v4All (cutB p 46) with
    | none => rw [hv] at h; simp at h
    | some l =>
      simp
      rw [key _ _ hv, h4]
  · simp at h
theorem gPart_len {p : ByteArray} {last : Bool} {b : List UInt8} (h : gPart p last = some b) : b.length = 2 ∨ b.length = 4 := by
  unfold gPart at h
  split at h
  · rename_i hc
    simp at h
    rw [← h]
    exact .inr (v4_four hc.2)
  · cases hg : grpO p with
    | none => rw [hg] at h; cases h
    | some n => rw [hg] at h; simp at h; subst h; exact .inl rfl
theorem gFrom_even (last : Bool) : ∀ (ls : List ByteArray) (l : List UInt8), gFrom last ls = some l → l.length % 2 = 0 ∧ l.length ≤ 4 * ls.length := by
  intro ls
  induction ls with
  | nil => intro l h; simp [gFrom] at h; subst h; simp
  | cons p r ih =>
    intro l h
    rw [gFrom] at h
    cases hp : gPart p (last && r.isEmpty) with
    | none => rw [hp] at h; cases h
    | some b =>
      rw [hp] at h
      cases hr : gFrom last r with
      | none => rw [hr] at h; cases h
      | some t =>
        rw [hr] at h
        simp at h
        subst h
        have h1 := gPart_len hp
        have h2 := ih t hr
        simp
        omega
def groupsS (s : ByteArray) (last : Bool) : Option (List UInt8) := if s.size = 0 then some [] else gFrom last (cutB s 58)
theorem groups_even {s : ByteArray} {last : Bool} {l : List UInt8} (h : groupsS s last = some l) : l.length % 2 = 0 ∧ l.length ≤ 4 * (s.size + 1) := by
  unfold groupsS at h
  split at h
  · simp at h; subst h; simp
  · have := gFrom_even last _ _ h
    have h2 := cutB_le s 58
    omega

def v6Gap (s : ByteArray) (i : Nat) : ByteArray × Int := match groupsS (s.extract 0 i) false, groupsS (s.extract (i + 2) s.size) true with
  | some a, some b => if 14 < a.length + b.length then (⟨#[]⟩, 7) else (⟨(a ++ List.replicate (16 - a.length - b.length) 0 ++ b).toArray⟩, 0)
  | _, _ => (⟨#[]⟩, 7)
def v6Whole (s : ByteArray) : ByteArray × Int := match groupsS s true with
  | some o => if o.length = 16 then (⟨o.toArray⟩, 0) else (⟨#[]⟩, 7)
  | none => (⟨#[]⟩, 7)
def readV6S (s : ByteArray) : ByteArray × Int := if 100 < s.size then (⟨#[]⟩, 7) else
  if 0 ≤ Lib.index s.data.toList [58, 58] then v6Gap s (Lib.index s.data.toList [58, 58]).toNat else v6Whole s

theorem occ_two {s : ByteArray} {i : Nat} (_h : i + 2 ≤ s.size) : Lib.occAt s.data.toList [58, 58] i = ((s.extract i (i + 2)).toList == [58, 58]) := by
  rw [Bool.eq_iff_iff, beq_iff_eq, ByteArray.toList_eq]
  unfold Lib.occAt
  rw [List.isPrefixOf_iff_prefix, List.prefix_iff_eq_take]
  have e : (s.extract i (i + 2)).data.toList = (s.data.toList.drop i).take 2 := by
    simp [List.extract_eq_take_drop]
  rw [e]
  constructor
  · intro h; exact h.symm
  · intro h; exact h.symm
def NoDD (s : ByteArray) (i : Nat) : Prop := Lib.NoOcc s.data.toList [58, 58] i
theorem dd_start (s : ByteArray) : NoDD s 0 := Lib.NoOcc.zero _ _
theorem dd_next {s : ByteArray} {i : Nat} (h : NoDD s i) (hi : i + 2 ≤ s.size) (hn : ((s.extract i (i + 2)).toList == [58, 58]) = false) : NoDD s (i + 1) := by
  intro j hj
  by_cases e : j = i
  · subst e; rw [occ_two hi]; exact hn
  · exact h j (by omega)
theorem dd_hit {s : ByteArray} {i : Nat} (h : NoDD s i) (h100 : ¬ 100 < s.size) (hi : i + 2 ≤ s.size) (hn : ((s.extract i (i + 2)).toList == [58, 58]) = true) : readV6S s = v6Gap s i := by
  have e := Lib.index_hit h (by simp; omega) (by rw [occ_two hi]; exact hn)
  rw [readV6S, if_neg h100, e, if_pos (by omega), Int.toNat_natCast]
theorem dd_none {s : ByteArray} {i : Nat} (h : NoDD s i) (h100 : ¬ 100 < s.size) (hi : s.size < i + 2) : readV6S s = v6Whole s := by
  have e := Lib.index_past (sub := [58, 58]) (by simp) h (by simp; omega)
  rw [readV6S, if_neg h100, e, if_neg (by omega)]
theorem v6_long {s : ByteArray} (h : 100 < s.size) : readV6S s = (⟨#[]⟩, 7) := by rw [readV6S, if_pos h]
end Go.Proofs.YtakonfkefoeenafDoor
