import Derived.Test.YtjokdmmlofbknaaDoorJReadM
import Derived.Lib.Join
import Derived.Test.YtjokdmmlofbknaaDoorJMath
/- What ShowV4 answers: mathematics. -/
namespace Go.Proofs.YtjokdmmlofbknaaDoor
open Go.RowKit

def v4Text (s : ByteArray) : List UInt8 := Lib.join (s.data.toList.map fun c => decL c.toNat) [46]
def showV4S (s : ByteArray) : ByteArray × Int := if s.size = 4 then (⟨(v4Text s).toArray⟩, 0) else (⟨#[]⟩, 7)
theorem v4Text_four {s : ByteArray} (h : s.size = 4) : (⟨(v4Text s).toArray⟩ : ByteArray) = decS s[0].toNat ++ ⟨#[46]⟩ ++ decS s[1].toNat ++ ⟨#[46]⟩ ++ decS s[2].toNat ++ ⟨#[46]⟩ ++ decS s[3].toNat := by
  have e : s.data.toList = [s[0], s[1], s[2], s[3]] := by
    refine List.ext_getElem (by simpa using h) ?_
    intro i h1 h2
    have hi : i < 4 := by simpa using h2
    rcases i with _ | _ | _ | _ | i
    · rfl
    · rfl
    · rfl
    · rfl
    · omega
  apply Nm.ba_ext
  rw [v4Text, e]
  simp [Lib.join, decS]
theorem dec_small {n : Nat} (h : n < 256) : (decS n).size ≤ 20 := by
  have := decL_len20 (n := n) (by omega)
  show (decL n).toArray.size ≤ 20
  simpa using this

theorem tail_len : ∀ (r : List ByteArray), (∀ x ∈ r, x.size ≤ 20) → (Lib.joinTail [46] (r.map (·.data.toList))).length ≤ 21 * r.length := by
  intro r
  induction r with
  | nil => intro _; simp [Lib.joinTail]
  | cons x r ih =>
    intro h
    have hx := h x (List.mem_cons_self)
    have ihr := ih (fun y hy => h y (List.mem_cons_of_mem _ hy))
    have hz : x.data.toList.length = x.size := by simp
    simp only [Lib.joinTail, List.map_cons, List.flatten_cons, List.length_append, List.length_cons, List.length_nil] at ihr ⊢
    omega
theorem join_len (ls : List ByteArray) (h : ∀ x ∈ ls, x.size ≤ 20) : (Lib.join (ls.map (·.data.toList)) [46]).length ≤ 21 * ls.length := by
  cases ls with
  | nil => simp [Lib.join_nil]
  | cons x r =>
    have hx := h x (List.mem_cons_self)
    have ihr := tail_len r (fun y hy => h y (List.mem_cons_of_mem _ hy))
    have hz : x.data.toList.length = x.size := by simp
    rw [List.map_cons, Lib.join_cons, List.length_append, List.length_cons]
    omega

def v4Parts (l : List UInt8) : List ByteArray := l.map fun c => decS c.toNat
theorem v4Parts_step {l : List UInt8} {k : Nat} {c : UInt8} (h : l[k]? = some c) : v4Parts (l.take (k + 1)) = v4Parts (l.take k) ++ [decS c.toNat] := by
  rw [Nm.take_step h]; simp [v4Parts]
theorem v4_joined (s : ByteArray) : (⟨(Lib.join ((v4Parts s.data.toList).map (·.data.toList)) [46]).toArray⟩ : ByteArray) = ⟨(v4Text s).toArray⟩ := by
  rw [v4Text, v4Parts, List.map_map]
  congr 2
end Go.Proofs.YtjokdmmlofbknaaDoor
/- Addresses that are written are read as they were: mathematics. -/
namespace Go.Proofs.YtjokdmmlofbknaaDoor
open Go.RowKit
set_option linter.unusedVariables false

theorem cutP_join (c : UInt8) : ∀ (r : List (List UInt8)) (x : List UInt8), c ∉ x → (∀ y ∈ r, c ∉ y) → cutP c (Lib.join (x :: r) [c]) = x :: r := by
  intro r
  induction r with
  | nil => intro x hx _; rw [Lib.join_one]; exact cutP_miss hx
  | cons y t ih =>
    intro x hx h
    have e : Lib.join (x :: y :: t) [c] = x ++ c :: Lib.join (y :: t) [c] := by
      rw [Lib.join_cons, Lib.join_cons]; simp [Lib.joinTail]
    rw [e, cutP_hit hx, ih y (h y (List.mem_cons_self)) (fun z hz => h z (List.mem_cons_of_mem _ hz))]

theorem numD_dec : ∀ n : Nat, numD (decL n) = n := by
  intro n
  induction n using Nat.strongRecOn with
  | _ n ih =>
    by_cases h : n < 10
    · rw [decL_small h]
      simp [numD]
      omega
    · rw [decL_step h, numD_snoc, ih (n / 10) (by omega)]
      simp
      omega
theorem dec_dig : ∀ n : Nat, (decL n).all Nm.digB = true := by
  intro n
  induction n using Nat.strongRecOn with
  | _ n ih =>
    by_cases h : n < 10
    · rw [decL_small h]
      simp [Nm.digB]
      omega
    · rw [decL_step h, List.all_append, ih (n / 10) (by omega)]
      simp [Nm.digB]
      omega
theorem dec_lenK : ∀ (k n : Nat), n < 10 ^ (k + 1) → (decL n).length ≤ k + 1 := by
  intro k
  induction k with
  | zero => intro n hn; rw [decL_small (by simpa using hn)]; simp
  | succ k ih =>
    intro n hn
    by_cases h10 : n < 10
    · rw [decL_small h10]; simp
    · rw [decL_step h10]
      have := ih (n / 10) (by rw [Nat.pow_succ] at hn; omega)
      simp; omega
theorem dec_ne (n : Nat) : 1 ≤ (decL n).length := by
  by_cases h : n < 10
  · rw [decL_small h]; simp
  · rw [decL_step h]; simp
theorem decS_size (n : Nat) : (decS n).size = (decL n).length := by show (decL n).toArray.size = _; simp
theorem decS_data (n : Nat) : (decS n).data.toList = decL n := by simp [decS]
theorem numO_dec {n m : Nat} (h : n < 10 ^ (m + 1)) : numO (decS n) (m + 1) = some n := by
  have h1 := dec_ne n
  have h2 := dec_lenK m n h
  rw [numO, decS_size, decS_data, if_pos ⟨h1, h2, dec_dig n⟩, numD_dec]
theorem v4Part_dec {n : Nat} (h : n < 256) : v4Part (decS n) = some n := by
  rw [v4Part, numO_dec (m := 2) (by omega)]
  exact if_pos ⟨by omega, rfl⟩
theorem dec_no {n : Nat} {c : UInt8} (hc : Nm.digB c = false) : c ∉ decL n := by
  intro h
  have := List.all_eq_true.1 (dec_dig n) c h
  rw [hc] at this; cases this
theorem v4All_dec : ∀ l : List UInt8, v4All (l.map fun c => decS c.toNat) = some l := by
  intro l
  induction l with
  | nil => rfl
  | cons c r ih =>
    rw [List.map_cons, v4All, v4Part_dec c.toNat_lt]
    simp [ih]
/-- An address of four bytes that is written is read as it was. -/
theorem v4_back {s : ByteArray} (h : s.size = 4) : readV4S (showV4S s).1 = (s, 0) := by
  rw [showV4S, if_pos h]
  have hc : cutB ⟨(v4Text s).toArray⟩ 46 = s.data.toList.map fun c => decS c.toNat := by
    apply data_inj
    rw [cutB_data, List.map_map]
    show cutP 46 (v4Text s) = _
    have e : (s.data.toList.map ((fun x => x.data.toList) ∘ fun c => decS c.toNat)) = s.data.toList.map fun c => decL c.toNat := by
      apply List.map_congr_left
      intro c _
      exact decS_data _
    rw [e, v4Text]
    have hl : s.data.toList.length = 4 := by simpa using h
    match hq : s.data.toList, hl with
    | x :: r, _ =>
      rw [List.map_cons]
      refine cutP_join 46 _ _ (dec_no (by decide)) ?_
      intro y hy
      obtain ⟨z, _, rfl⟩ := List.mem_map.1 hy
      exact dec_no (by decide)
  have hl : s.data.toList.length = 4 := by simpa using h
  rw [readV4S, hc, if_pos (by rw [List.length_map, hl]), v4All_dec]
end Go.Proofs.YtjokdmmlofbknaaDoor
/- The value of a digit of base 16: mathematics. -/
namespace Go.Proofs.YtjokdmmlofbknaaDoor
open Go.RowKit

/-- A hexadecimal digit's value, or minus one. -/
def hexV (c : UInt8) : Int :=
  if Nm.digB c = true then (c.toNat : Int) - 48 else if 97 ≤ c.toNat ∧ c.toNat ≤ 102 then (c.toNat : Int) - 97 + 10
  else if 65 ≤ c.toNat ∧ c.toNat ≤ 70 then (c.toNat : Int) - 65 + 10 else -1

end Go.Proofs.YtjokdmmlofbknaaDoor
/- What ReadV6 answers: mathematics. -/
namespace Go.Proofs.YtjokdmmlofbknaaDoor
open Go.RowKit

def isHex (c : UInt8) : Bool := decide (0 ≤ hexV c)
theorem hexV_lt (c : UInt8) : hexV c < 16 ∧ -1 ≤ hexV c := by
  unfold hexV
  split
  · rename_i h; simp [Nm.digB] at h; omega
  · split
    · omega
    · split <;> omega
/-- The number of digits of base 16. -/
def hexN (l : List UInt8) : Nat := l.foldl (fun n c => n * 16 + (hexV c).toNat) 0
theorem hexN_snoc (l : List UInt8) (c : UInt8) : hexN (l ++ [c]) = hexN l * 16 + (hexV c).toNat := by simp [hexN]
theorem hexN_lt (l : List UInt8) : hexN l < 16 ^ l.length := by
  have key : ∀ (l : List UInt8) (a : Nat), l.foldl (fun n c => n * 16 + (hexV c).toNat) a < (a + 1) * 16 ^ l.length := by
    intro l
    induction l with
    | nil => intro a; simp
    | cons c l ih =>
      intro a
      have hc := hexV_lt c
      rw [List.foldl_cons, List.length_cons, Nat.pow_succ]
      refine Nat.lt_of_lt_of_le (ih _) ?_
      have h1 : a * 16 + (hexV c).toNat + 1 ≤ (a + 1) * 16 := by omega
      have h2 := Nat.mul_le_mul_right (16 ^ l.length) h1
      have h3 : (a + 1) * 16 * 16 ^ l.length = (a + 1) * (16 ^ l.length * 16) := by rw [Nat.mul_assoc, Nat.mul_comm 16]
      omega
  have := key l 0
  rw [Nat.zero_add, Nat.one_mul] at this
  exact this
theorem hexN_small {l : List UInt8} (h : l.length ≤ 4) : hexN l < 65536 := by
  have h1 := hexN_lt l
  have h2 : 16 ^ l.length ≤ 16 ^ 4 := Nat.pow_le_pow_right (by decide) h
  have h3 : (16 : Nat) ^ 4 = 65536 := by decide
  omega
def grpO (p : ByteArray) : Option Nat := if 1 ≤ p.size ∧ p.size ≤ 4 ∧ p.data.toList.all isHex = true then some (hexN p.data.toList) else none
theorem grpO_len {p : ByteArray} (h : ¬ (1 ≤ p.size ∧ p.size ≤ 4)) : grpO p = none := by rw [grpO, if_neg (fun h' => h ⟨h'.1, h'.2.1⟩)]
theorem grpO_bad {p : ByteArray} {k : Nat} (hk : k < p.size) (h : hexV p[k] < 0) : grpO p = none := by
  rw [grpO, if_neg]
  rintro ⟨_, _, h3⟩
  have := List.all_eq_true.1 h3 p[k] (List.mem_of_getElem? (Nm.get_data hk))
  simp [isHex] at this
  omega
theorem grpO_good {p : ByteArray} (h1 : 1 ≤ p.size) (h2 : p.size ≤ 4) (h : ∀ j, (hj : j < p.size) → 0 ≤ hexV p[j]) : grpO p = some (hexN p.data.toList) := by
  rw [grpO, if_pos]
  refine ⟨h1, h2, ?_⟩
  rw [List.all_eq_true]
  intro c hc
  obtain ⟨i, hi⟩ := List.getElem?_of_mem hc
  have hl : i < p.size := by
    have := (List.getElem?_eq_some_iff.1 hi).1
    simpa using this
  rw [Nm.get_data hl] at hi
  simp at hi
  rw [← hi]
  simp [isHex]
  exact h _ hl
theorem grpO_lt {p : ByteArray} {n : Nat} (h : grpO p = some n) : n < 65536 := by
  unfold grpO at h
  by_cases hc : 1 ≤ p.size ∧ p.size ≤ 4 ∧ p.data.toList.all isHex = true
  · rw [if_pos hc] at h
    have := hexN_small (l := p.data.toList) (by simp; omega)
    rw [← Option.some.inj h]
    exact this
  · rw [if_neg hc] at h; cases h

def put2 (n : Nat) : List UInt8 := [UInt8.ofNat (n / 256), UInt8.ofNat (n % 256)]
/-- A part of an address of sixteen bytes. -/
def gPart (p : ByteArray) (last : Bool) : Option (List UInt8) :=
  if last = true ∧ (readV4S p).2 = 0 then some (readV4S p).1.data.toList else (grpO p).map put2
def gFrom (last : Bool) : List ByteArray → Option (List UInt8)
  | [] => some []
  | p :: r => match gPart p (last && r.isEmpty) with
    | none => none
    | some b => (gFrom last r).map (fun t => b ++ t)
def GAt (last : Bool) (ls : List ByteArray) (k : Nat) (o : List UInt8) : Prop := gFrom last ls = (gFrom last (ls.drop k)).map (fun t => o ++ t)
theorem g_start (last : Bool) (ls : List ByteArray) : GAt last ls 0 [] := by simp [GAt]
theorem drop_at' {ls : List ByteArray} {k : Nat} {p : ByteArray} (hp : ls[k]? = some p) : ls.drop k = p :: ls.drop (k + 1) ∧ (ls.drop (k + 1)).isEmpty = decide (k + 1 = ls.length) := by
  have hk : k < ls.length := (List.getElem?_eq_some_iff.1 hp).1
  have hx : ls[k] = p := (List.getElem?_eq_some_iff.1 hp).2
  refine ⟨by rw [List.drop_eq_getElem_cons hk, hx], ?_⟩
  rw [Bool.eq_iff_iff, List.isEmpty_iff, decide_eq_true_eq, List.drop_eq_nil_iff]
  omega
theorem g_next {last : Bool} {ls : List ByteArray} {k : Nat} {o b : List UInt8} {p : ByteArray} (h : GAt last ls k o) (hp : ls[k]? = some p) (hb : gPart p (last && decide (k + 1 = ls.length)) = some b) : GAt last ls (k + 1) (o ++ b) := by
  obtain ⟨e1, e2⟩ := drop_at' hp
  rw [GAt] at h ⊢
  rw [h, e1, gFrom, e2, hb]
  simp only [Option.map_map]
  congr 1; funext t; simp
theorem g_bad {last : Bool} {ls : List ByteArray} {k : Nat} {o : List UInt8} {p : ByteArray} (h : GAt last ls k o) (hp : ls[k]? = some p) (hb : gPart p (last && decide (k + 1 = ls.length)) = none) : gFrom last ls = none := by
  obtain ⟨e1, e2⟩ := drop_at' hp
  rw [GAt] at h
  rw [h, e1, gFrom, e2, hb]; rfl
theorem g_end {last : Bool} {ls : List ByteArray} {k : Nat} {o : List UInt8} (h : GAt last ls k o) (hk : ls.length ≤ k) : gFrom last ls = some o := by
  rw [GAt, List.drop_eq_nil_of_le hk] at h
  rw [h]; simp [gFrom]

/-- An address of four bytes has four. -/
theorem v4_four {p : ByteArray} (h : (readV4S p).2 = 0) : (readV4S p).1.data.toList.length = 4 := by
  have key : ∀ (ls : List ByteArray) (l : List UInt8), v4All ls = some l → l.length = ls.length := by
    intro ls
    induction ls with
    | nil => intro l h; simp [v4All] at h; subst h; rfl
    | cons p r ih =>
      intro l h
      rw [v4All] at h
      cases hp : v4Part p with
      | none => rw [hp] at h; cases h
      | some n =>
        rw [hp] at h
        cases hr : v4All r with
        | none => rw [hr] at h; cases h
        | some t =>
          rw [hr] at h
          simp at h
          subst h
          simp [ih t hr]
  unfold readV4S at h ⊢
  split at h
  · rename_i h4
    rw [if_pos h4]
    cases hv : v4All (cutB p 46) with
    | none => rw [hv] at h; simp at h
    | some l =>
      simp
      rw [key _ _ hv, h4]
  · simp at h
theorem gPart_len {p : ByteArray} {last : Bool} {b : List UInt8} (h : gPart p last = some b) : b.length = 2 ∨ b.length = 4 := by
  unfold gPart at h
  split at h
  · rename_i hc
    simp at h
    rw [← h]
    exact .inr (v4_four hc.2)
  · cases hg : grpO p with
    | none => rw [hg] at h; cases h
    | some n => rw [hg] at h; simp at h; subst h; exact .inl rfl
theorem gFrom_even (last : Bool) : ∀ (ls : List ByteArray) (l : List UInt8), gFrom last ls = some l → l.length % 2 = 0 ∧ l.length ≤ 4 * ls.length := by
  intro ls
  induction ls with
  | nil => intro l h; simp [gFrom] at h; subst h; simp
  | cons p r ih =>
    intro l h
    rw [gFrom] at h
    cases hp : gPart p (last && r.isEmpty) with
    | none => rw [hp] at h; cases h
    | some b =>
      rw [hp] at h
      cases hr : gFrom last r with
      | none => rw [hr] at h; cases h
      | some t =>
        rw [hr] at h
        simp at h
        subst h
        have h1 := gPart_len hp
        have h2 := ih t hr
        simp
        omega
def groupsS (s : ByteArray) (last : Bool) : Option (List UInt8) := if s.size = 0 then some [] else gFrom last (cutB s 58)
theorem groups_even {s : ByteArray} {last : Bool} {l : List UInt8} (h : groupsS s last = some l) : l.length % 2 = 0 ∧ l.length ≤ 4 * (s.size + 1) := by
  unfold groupsS at h
  split at h
  · simp at h; subst h; simp
  · have := gFrom_even last _ _ h
    have h2 := cutB_le s 58
    omega

def v6Gap (s : ByteArray) (i : Nat) : ByteArray × Int := match groupsS (s.extract 0 i) false, groupsS (s.extract (i + 2) s.size) true with
  | some a, some b => if 14 < a.length + b.length then (⟨#[]⟩, 7) else (⟨(a ++ List.replicate (16 - a.length - b.length) 0 ++ b).toArray⟩, 0)
  | _, _ => (⟨#[]⟩, 7)
def v6Whole (s : ByteArray) : ByteArray × Int := match groupsS s true with
  | some o => if o.length = 16 then (⟨o.toArray⟩, 0) else (⟨#[]⟩, 7)
  | none => (⟨#[]⟩, 7)
def readV6S (s : ByteArray) : ByteArray × Int := if 100 < s.size then (⟨#[]⟩, 7) else
  if 0 ≤ Lib.index s.data.toList [58, 58] then v6Gap s (Lib.index s.data.toList [58, 58]).toNat else v6Whole s

theorem occ_two {s : ByteArray} {i : Nat} (_h : i + 2 ≤ s.size) : Lib.occAt s.data.toList [58, 58] i = ((s.extract i (i + 2)).toList == [58, 58]) := by
  rw [Bool.eq_iff_iff, beq_iff_eq, ByteArray.toList_eq]
  unfold Lib.occAt
  rw [List.isPrefixOf_iff_prefix, List.prefix_iff_eq_take]
  have e : (s.extract i (i + 2)).data.toList = (s.data.toList.drop i).take 2 := by
    simp [List.extract_eq_take_drop]
  rw [e]
  constructor
  · intro h; exact h.symm
  · intro h; exact h.symm
def NoDD (s : ByteArray) (i : Nat) : Prop := Lib.NoOcc s.data.toList [58, 58] i
theorem dd_start (s : ByteArray) : NoDD s 0 := Lib.NoOcc.zero _ _
theorem dd_next {s : ByteArray} {i : Nat} (h : NoDD s i) (hi : i + 2 ≤ s.size) (hn : ((s.extract i (i + 2)).toList == [58, 58]) = false) : NoDD s (i + 1) := by
  intro j hj
  by_cases e : j = i
  · subst e; rw [occ_two hi]; exact hn
  · exact h j (by omega)
theorem dd_hit {s : ByteArray} {i : Nat} (h : NoDD s i) (h100 : ¬ 100 < s.size) (hi : i + 2 ≤ s.size) (hn : ((s.extract i (i + 2)).toList == [58, 58]) = true) : readV6S s = v6Gap s i := by
  have e := Lib.index_hit h (by simp; omega) (by rw [occ_two hi]; exact hn)
  rw [readV6S, if_neg h100, e, if_pos (by omega), Int.toNat_natCast]
theorem dd_none {s : ByteArray} {i : Nat} (h : NoDD s i) (h100 : ¬ 100 < s.size) (hi : s.size < i + 2) : readV6S s = v6Whole s := by
  have e := Lib.index_past (sub := [58, 58]) (by simp) h (by simp; omega)
  rw [readV6S, if_neg h100, e, if_neg (by omega)]
theorem v6_long {s : ByteArray} (h : 100 < s.size) : readV6S s = (⟨#[]⟩, 7) := by rw [readV6S, if_pos h]
end Go.Proofs.YtjokdmmlofbknaaDoor
/- Numbers in digits of base 16: mathematics. -/
namespace Go.Proofs.YtjokdmmlofbknaaDoor
open Go.RowKit

def hexD (k : Nat) : UInt8 := if k < 10 then UInt8.ofNat (48 + k) else UInt8.ofNat (87 + k)
/-- A number's hexadecimal digits, no needless noughts. -/
def hexF : Nat → Nat → List UInt8
  | 0, _ => []
  | f + 1, n => if n < 16 then [hexD n] else hexF f (n / 16) ++ [hexD (n % 16)]
theorem hexF_enough : ∀ (f g n : Nat), n < f → n < g → hexF f n = hexF g n := by
  intro f
  induction f with
  | zero => intro g n h; omega
  | succ f ih =>
    intro g n hf hg
    cases g with
    | zero => omega
    | succ g =>
      rw [hexF, hexF]
      by_cases h : n < 16
      · rw [if_pos h, if_pos h]
      · rw [if_neg h, if_neg h, ih g (n / 16) (by omega) (by omega)]
def hexL (n : Nat) : List UInt8 := hexF (n + 1) n
def hexS (n : Nat) : ByteArray := ⟨(hexL n).toArray⟩
theorem hexL_small {n : Nat} (h : n < 16) : hexL n = [hexD n] := by rw [hexL, hexF, if_pos h]
theorem hexL_step {n : Nat} (h : ¬ n < 16) : hexL n = hexL (n / 16) ++ [hexD (n % 16)] := by
  rw [hexL, hexF, if_neg h, hexL]
  rw [hexF_enough n (n / 16 + 1) (n / 16) (by omega) (by omega)]
theorem hexL_len {n : Nat} (h : n < 65536) : (hexL n).length ≤ 4 := by
  by_cases h1 : n < 16
  · rw [hexL_small h1]; simp
  by_cases h2 : n / 16 < 16
  · rw [hexL_step h1, hexL_small h2]; simp
  by_cases h3 : n / 16 / 16 < 16
  · rw [hexL_step h1, hexL_step h2, hexL_small h3]; simp
  · rw [hexL_step h1, hexL_step h2, hexL_step h3, hexL_small (by omega)]; simp
theorem hexS_size {n : Nat} (h : n < 65536) : (hexS n).size ≤ 4 := by
  have := hexL_len h
  show (hexL n).toArray.size ≤ 4
  simpa using this

def hexLit : ByteArray := ⟨#[48, 49, 50, 51, 52, 53, 54, 55, 56, 57, 97, 98, 99, 100, 101, 102]⟩
theorem hexLit_at (k : Nat) (h : k < 16) : hexLit.extract k (k + 1) = ⟨#[hexD k]⟩ := by
  match k, h with
  | 0, _ => rfl
  | 1, _ => rfl
  | 2, _ => rfl
  | 3, _ => rfl
  | 4, _ => rfl
  | 5, _ => rfl
  | 6, _ => rfl
  | 7, _ => rfl
  | 8, _ => rfl
  | 9, _ => rfl
  | 10, _ => rfl
  | 11, _ => rfl
  | 12, _ => rfl
  | 13, _ => rfl
  | 14, _ => rfl
  | 15, _ => rfl
  | n + 16, h => exact absurd h (by omega)

end Go.Proofs.YtjokdmmlofbknaaDoor
/- The number of some bytes: mathematics. -/
namespace Go.Proofs.YtjokdmmlofbknaaDoor
open Go.RowKit

/-- The number of some bytes, the high one first. -/
def numL (l : List UInt8) : Nat := l.foldl (fun n c => n * 256 + c.toNat) 0

theorem numL_snoc (l : List UInt8) (c : UInt8) : numL (l ++ [c]) = numL l * 256 + c.toNat := by simp [numL]

theorem fold_lt : ∀ (l : List UInt8) (a : Nat), l.foldl (fun n c => n * 256 + c.toNat) a < (a + 1) * 256 ^ l.length := by
  intro l
  induction l with
  | nil => intro a; simp
  | cons c l ih =>
    intro a
    rw [List.foldl_cons, List.length_cons, Nat.pow_succ]
    refine Nat.lt_of_lt_of_le (ih _) ?_
    have hc := c.toNat_lt
    have h1 : a * 256 + c.toNat + 1 ≤ (a + 1) * 256 := by omega
    calc (a * 256 + c.toNat + 1) * 256 ^ l.length ≤ ((a + 1) * 256) * 256 ^ l.length := Nat.mul_le_mul_right _ h1
      _ = (a + 1) * (256 ^ l.length * 256) := by rw [Nat.mul_assoc, Nat.mul_comm 256]

theorem numL_lt (l : List UInt8) : numL l < 256 ^ l.length := by
  have := fold_lt l 0
  rw [Nat.zero_add, Nat.one_mul] at this
  exact this

theorem numL_small {l : List UInt8} (h : l.length ≤ 6) : numL l < 281474976710656 := by
  have h1 := numL_lt l
  have h2 : 256 ^ l.length ≤ 256 ^ 6 := Nat.pow_le_pow_right (by decide) h
  have h3 : (256 : Nat) ^ 6 = 281474976710656 := by decide
  omega

end Go.Proofs.YtjokdmmlofbknaaDoor
