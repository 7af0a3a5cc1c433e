import Derived.Test.YthhagapmcbkeiaaJShK
import Derived.Test.YthhagapmcbkeiaaJMath
import Derived.Test.YthhagapmcbkeiaaRows
import Derived.WalkSpells
import Derived.WalkLawsBesides
import Derived.Laws.AppendOwn
import Derived.Deep.RegionHeld3
import Derived.Deep.RegionLaw
import Derived.Deep.RegionHeld
/- spec.Sha256: the words as bytes. -/
namespace Go.Proofs.Ythhagapmcbkeiaa
open Go.RowKit
set_option linter.unusedVariables false

def ouA (l : List UInt8) (i : Nat) : Array Value := ((List.range 32).map fun j => if j < i then .int .u8 (((l[j]?).getD 0).toNat : Int) else .int .u8 0).toArray
theorem ouA_zero (l : List UInt8) : ouA l 0 = Array.replicate 32 (.int .u8 0) := by
  simp only [ouA, Nat.not_lt_zero, if_false]
  rfl
theorem ouA_any {l : List UInt8} {i j : Nat} (hj : j < 32) : ∃ v, (ouA l i)[j]? = some v := by simp [ouA, hj]
theorem ouA_set {l : List UInt8} {i : Nat} (h : i < 32) : (ouA l i).setIfInBounds i (.int .u8 (((l[i]?).getD 0).toNat : Int)) = ouA l (i + 1) := by
  apply Array.ext_getElem?
  intro j
  rw [Array.getElem?_setIfInBounds]
  by_cases hj : i = j
  · subst hj
    simp [ouA, h]
  · rw [if_neg hj]
    by_cases hj32 : j < 32
    · simp only [ouA, List.getElem?_toArray, List.getElem?_map, List.getElem?_range hj32, Option.map_some]
      by_cases h1 : j < i
      · rw [if_pos h1, if_pos (by omega)]
      · rw [if_neg h1, if_neg (by omega)]
    · simp [ouA, hj32]
theorem outL_len (s : Sv) : (outL s).length = 32 := rfl
theorem ouA_all (s : Sv) : ouA (outL s) 32 = ((outL s).map fun c => Value.int .u8 (c.toNat : Int)).toArray := rfl
def byA (l : List UInt8) : Array Value := (l.map fun c => Value.int .u8 (c.toNat : Int)).toArray
theorem byA_size (l : List UInt8) : (byA l).size = l.length := by simp [byA]
theorem byA_one (l : List UInt8) : (byA l).all (·.oneCell') = true := Array.all_eq_true_iff_forall_mem.2 (fun v hv => by
  simp only [byA, List.mem_toArray, List.mem_map] at hv
  obtain ⟨c, _, rfl⟩ := hv
  rfl)
theorem ouA_byA (s : Sv) : ouA (outL s) 32 = byA (outL s) := ouA_all s
theorem all_rep8 (n : Nat) : (Array.replicate n (Value.int .u8 0)).all (·.oneCell') = true := Array.all_eq_true_iff_forall_mem.2 (fun v hv => by rw [(Array.mem_replicate.1 hv).2]; rfl)
theorem outL_at (s : Sv) {k : Nat} (h : k < 32) : ((outL s)[k]?).getD 0 = UInt8.ofNat ((((svL s)[k / 4]?).getD 0).toNat / 2 ^ (24 - 8 * (k % 4))) := by
  match k, h with
  | 0, _ | 1, _ | 2, _ | 3, _ | 4, _ | 5, _ | 6, _ | 7, _ | 8, _ | 9, _ | 10, _ | 11, _ | 12, _ | 13, _ | 14, _ | 15, _ | 16, _ | 17, _ | 18, _ | 19, _ | 20, _ | 21, _ | 22, _ | 23, _ | 24, _ | 25, _ | 26, _ | 27, _ | 28, _ | 29, _ | 30, _ | 31, _ => simp [outL, svL]
  | n + 32, h => exact absurd h (by omega)
theorem hvA_at8 (h : Sv) {j : Nat} (hj : j < 8) : (hvA h)[j]? = some (.int .u32 ((((svL h)[j]?).getD 0).toNat : Int)) := by
  match j, hj with
  | 0, _ | 1, _ | 2, _ | 3, _ | 4, _ | 5, _ | 6, _ | 7, _ => rfl

end Go.Proofs.Ythhagapmcbkeiaa
/- Signatures: mathematics. -/
namespace Go.Proofs.Ythhagapmcbkeiaa
open Go.RowKit
set_option linter.unusedVariables false

/-- the algorithm's name, as its bytes -/
abbrev algL : List UInt8 := [11, 104, 109, 97, 99, 45, 115, 104, 97, 50, 53, 54, 0]
/-- what is summed -/
def textL (rq body nf : List UInt8) (t f : Nat) : List UInt8 :=
  (if rq.length = 0 then [] else bigL rq.length 2 ++ rq) ++ body ++ nf ++ bigL 255 2 ++ bigL 0 4 ++ algL ++ bigL t 6 ++ bigL f 2 ++ [0, 0, 0, 0]
def sumL (sc rq body nf : List UInt8) (t f : Nat) : List UInt8 := hmacL sc (textL rq body nf t f)
/-- a signature's data -/
def datL (t f : Nat) (sum : List UInt8) (id : Nat) : List UInt8 := algL ++ bigL t 6 ++ bigL f 2 ++ bigL 32 2 ++ sum ++ bigL id 2 ++ [0, 0, 0, 0]
/-- a signature's record -/
def recL (nm dat : List UInt8) : List UInt8 := nm ++ bigL 250 2 ++ bigL 255 2 ++ bigL 0 4 ++ bigL dat.length 2 ++ dat
/-- a message's two numbers -/
def idN (m : List UInt8) : Nat := numL (m.take 2)
def ctN (m : List UInt8) : Nat := numL ((m.drop 10).take 2)
/-- a message that is signed -/
def signL (m nm nf sc rq : List UInt8) (t : Nat) : List UInt8 :=
  m.take 10 ++ bigL (ctN m + 1) 2 ++ m.drop 12 ++ recL nm (datL t 300 (sumL sc rq m nf t 300) (idN m))

theorem hmac_len (k b : List UInt8) : (hmacL k b).length = 32 := by rw [hmacL, shaL]; exact outL_len _
theorem big_len (v n : Nat) : (bigL v n).length = n := by simp [bigL]
theorem dat_len {t f id : Nat} {sum : List UInt8} (h : sum.length = 32) : (datL t f sum id).length = 61 := by simp [datL, big_len, h]
theorem rec_len {nm dat : List UInt8} (h : dat.length = 61) : (recL nm dat).length = nm.length + 71 := by simp [recL, big_len, h]
theorem big_two (a b : UInt8) : bigL (numL [a, b]) 2 = [a, b] := by
  have h : numL [a, b] = a.toNat * 256 + b.toNat := by simp [numL]
  have ha := a.toNat_lt
  have hb := b.toNat_lt
  rw [h]
  show [UInt8.ofNat ((a.toNat * 256 + b.toNat) / 2 ^ 8), UInt8.ofNat ((a.toNat * 256 + b.toNat) / 2 ^ 0)] = _
  have e1 : UInt8.ofNat ((a.toNat * 256 + b.toNat) / 2 ^ 8) = a := by
    apply UInt8.toNat_inj.1
    rw [UInt8.toNat_ofNat']
    omega
  have e2 : UInt8.ofNat ((a.toNat * 256 + b.toNat) / 2 ^ 0) = b := by
    apply UInt8.toNat_inj.1
    rw [UInt8.toNat_ofNat']
    omega
  rw [e1, e2]
theorem two_big {l : List UInt8} (h : l.length = 2) : bigL (numL l) 2 = l := by
  match l, h with
  | [a, b], _ => exact big_two a b
theorem num_two {l : List UInt8} (h : l.length = 2) : numL l < 65536 := by
  match l, h with
  | [a, b], _ =>
    have ha := a.toNat_lt
    have hb := b.toNat_lt
    simp [numL]
    omega
theorem ba_cat (a b : List UInt8) : (ByteArray.mk a.toArray) ++ (ByteArray.mk b.toArray) = ⟨(a ++ b).toArray⟩ := by
  apply ByteArray.ext
  simp
theorem ba_size (a : List UInt8) : (ByteArray.mk a.toArray).size = a.length := by show a.toArray.size = _; simp
theorem ba_mk (s : ByteArray) : (ByteArray.mk s.data.toList.toArray) = s := by
  apply ByteArray.ext
  simp
end Go.Proofs.Ythhagapmcbkeiaa
/- What ReadEdns and EdnsRecord say: mathematics. -/
namespace Go.Proofs.Ythhagapmcbkeiaa
open Go.RowKit
set_option linter.unusedVariables false

/-- An option that may be told. -/
def optB (o : Int × ByteArray) : Bool := (decide (0 ≤ o.1) && decide (o.1 ≤ 65535)) && decide (o.2.size ≤ 65535)
/-- Its bytes. -/
def optL (o : Int × ByteArray) : List UInt8 := bigL o.1.toNat 2 ++ bigL o.2.size 2 ++ o.2.data.toList
def optsL (xs : List (Int × ByteArray)) : List UInt8 := xs.flatMap optL
def erB (size code flags : Int) (xs : List (Int × ByteArray)) : Bool := (decide (0 ≤ size) && decide (size ≤ 65535)) && ((decide (0 ≤ flags) && decide (flags ≤ 65535)) && ((decide (0 ≤ code) && decide (code ≤ 255)) && (xs.all optB && decide ((optsL xs).length ≤ 65535))))
/-- The record. -/
def erA (size code flags : Int) (xs : List (Int × ByteArray)) : Array Value := #[.string ⟨#[0]⟩, .int .i64 41, .int .i64 size, .int .i64 (code * 16777216 + flags), .string ⟨(optsL xs).toArray⟩]
def erZ : Array Value := #[.string ByteArray.empty, .int .i64 0, .int .i64 0, .int .i64 0, .string ByteArray.empty]

theorem optL_len (o : Int × ByteArray) : (optL o).length = 4 + o.2.size := by
  have : o.2.data.toList.length = o.2.size := by simp
  simp only [optL, List.length_append, big_len, this]
theorem optsL_len : ∀ xs : List (Int × ByteArray), (optsL xs).length = 4 * xs.length + osum xs
  | [] => rfl
  | x :: xs => by
    have ih := optsL_len xs
    have e : optsL (x :: xs) = optL x ++ optsL xs := by simp [optsL]
    rw [e, List.length_append, optL_len, ih, List.length_cons, osum]
    omega
theorem optsL_step {xs : List (Int × ByteArray)} {k : Nat} {x : Int × ByteArray} (h : xs[k]? = some x) : optsL (xs.take (k + 1)) = optsL (xs.take k) ++ optL x := by
  rw [List.take_add_one, h]
  simp [optsL]
theorem opt_all {xs : List (Int × ByteArray)} {k : Nat} {x : Int × ByteArray} (h : xs[k]? = some x) : (xs.take (k + 1)).all optB = ((xs.take k).all optB && optB x) := by
  rw [List.take_add_one, h]
  simp

/-- Options cut: so many that are read, the rest. -/
def optA : Nat → List (Int × ByteArray) → List UInt8 → Option (List (Int × ByteArray))
  | 0, _, _ => none
  | f + 1, acc, l => if l = [] then some acc else if l.length < 4 ∨ l.length < 4 + numL ((l.drop 2).take 2) then none else optA f (acc ++ [((numL (l.take 2) : Int), ⟨((l.drop 4).take (numL ((l.drop 2).take 2))).toArray⟩)]) (l.drop (4 + numL ((l.drop 2).take 2)))
def optR (l : List UInt8) : Option (List (Int × ByteArray)) := optA (l.length + 1) [] l
theorem optA_nil {f : Nat} {acc : List (Int × ByteArray)} : optA (f + 1) acc [] = some acc := by rw [optA, if_pos rfl]
theorem optA_bad {f : Nat} {acc : List (Int × ByteArray)} {l : List UInt8} (h : l ≠ []) (hb : l.length < 4 ∨ l.length < 4 + numL ((l.drop 2).take 2)) : optA (f + 1) acc l = none := by rw [optA, if_neg h, if_pos hb]
theorem optA_step {f : Nat} {acc : List (Int × ByteArray)} {l : List UInt8} (h : l ≠ []) (hb : ¬ (l.length < 4 ∨ l.length < 4 + numL ((l.drop 2).take 2))) : optA (f + 1) acc l = optA f (acc ++ [((numL (l.take 2) : Int), ⟨((l.drop 4).take (numL ((l.drop 2).take 2))).toArray⟩)]) (l.drop (4 + numL ((l.drop 2).take 2))) := by rw [optA, if_neg h, if_neg hb]
end Go.Proofs.Ythhagapmcbkeiaa
/- Folding, and the order of texts, as plain mathematics. -/
namespace Go.Proofs.Ythhagapmcbkeiaa.Nm
open Go.RowKit

def low (c : UInt8) : UInt8 := if 65 ≤ c.toNat ∧ c.toNat ≤ 90 then UInt8.ofNat (c.toNat + 32) else c
def smallL (l : List UInt8) : List UInt8 := l.map low
def small (s : ByteArray) : ByteArray := ⟨(smallL s.data.toList).toArray⟩

theorem low_up {c : UInt8} (h : 65 ≤ c.toNat ∧ c.toNat ≤ 90) : ((low c).toNat : Int) = (c.toNat : Int) + 32 := by
  rw [low, if_pos h]; simp; omega
theorem low_id {c : UInt8} (h : ¬ (65 ≤ c.toNat ∧ c.toNat ≤ 90)) : low c = c := by rw [low, if_neg h]

theorem small_data (s : ByteArray) : (small s).data.toList = smallL s.data.toList := by simp [small]
theorem small_size (s : ByteArray) : (small s).size = s.size := by
  have : (small s).data.toList.length = s.data.toList.length := by rw [small_data]; simp [smallL]
  simpa using this

theorem ba_ext {a b : ByteArray} (h : a.data.toList = b.data.toList) : a = b := by
  apply ByteArray.ext
  exact Array.toList_inj.1 h

theorem smallL_step {l : List UInt8} {k : Nat} {c : UInt8} (h : l[k]? = some c) : smallL (l.take (k + 1)) = smallL (l.take k) ++ [low c] := by
  rw [take_step h]; simp [smallL]

theorem get_data {x : ByteArray} {j : Nat} (h : j < x.size) : x.data.toList[j]? = some x[j] := by
  rw [List.getElem?_eq_getElem (by simpa using h)]; rfl

/-! What 'split' gives back, put together again. -/

theorem cut_data (r : ByteArray) (h : 0 < r.size) (n : Nat) :
    r.data.toList = r[0] :: ((r.extract 1 (n + 1)).data.toList ++ (r.extract (n + 1) r.size).data.toList) := by
  have e0 : r.data.toList = r[0] :: r.data.toList.drop 1 := by
    have hl : 0 < r.data.toList.length := by simpa using h
    have := List.drop_eq_getElem_cons (i := 0) hl
    rw [List.drop_zero] at this
    exact this
  rw [e0]
  congr 1
  have e1 : (r.extract 1 (n + 1)).data.toList = (r.data.toList.drop 1).take n := by simp
  have e2 : (r.extract (n + 1) r.size).data.toList = (r.data.toList.drop 1).drop n := by
    simp only [ByteArray.data_extract, Array.toList_extract, List.drop_drop]
    rw [List.extract_eq_take_drop, List.take_of_length_le (by simp)]
    congr 1
    omega
  rw [e1, e2, List.take_append_drop]

theorem splitF_join : ∀ (f : Nat) (r : ByteArray) (ls : List ByteArray), splitF f r = some ls → joinL ls = r.data.toList ∧ ∀ x ∈ ls, 1 ≤ x.size ∧ x.size ≤ 63 := by
  intro f
  induction f with
  | zero => intro r ls h; simp [splitF] at h
  | succ f ih =>
    intro r ls h
    by_cases hp : 0 < r.size
    · by_cases h0 : r[0].toNat = 0
      · by_cases h1 : r.size = 1
        · rw [splitF_end f r hp h0 h1] at h
          simp at h
          subst h
          refine ⟨?_, by simp⟩
          have e := cut_data r hp 0
          have z : r[0] = 0 := UInt8.toNat_inj.1 (by simpa using h0)
          rw [e, z]
          have e1 : (r.extract 1 (0 + 1)).data.toList = [] := by simp
          have e2 : (r.extract (0 + 1) r.size).data.toList = [] := by simp [h1]
          rw [e1, e2]; rfl
        · rw [splitF_zero f r hp h0 h1] at h; simp at h
      · by_cases h1 : 63 < r[0].toNat ∨ r.size < r[0].toNat + 1
        · rw [splitF_bad f r hp h0 h1] at h; simp at h
        · rw [splitF_step f r hp h0 (by omega) (by omega)] at h
          cases e : splitF f (r.extract (r[0].toNat + 1) r.size) with
          | none => rw [e] at h; simp at h
          | some t =>
            rw [e] at h
            simp at h
            obtain ⟨i1, i2⟩ := ih _ _ e
            have hsz : (r.extract 1 (r[0].toNat + 1)).size = r[0].toNat := by simp; omega
            rw [← h]
            constructor
            · rw [cut_data r hp r[0].toNat, ← i1]
              simp only [joinL, preL, hsz]
              simp
            · intro x hx
              rcases List.mem_cons.1 hx with rfl | hx
              · rw [hsz]; omega
              · exact i2 x hx
    · rw [splitF_empty _ r (by omega)] at h; simp at h

theorem split_join {s : ByteArray} {ls : List ByteArray} (h : split s = some ls) : joinL ls = s.data.toList ∧ ∀ x ∈ ls, 1 ≤ x.size ∧ x.size ≤ 63 := by
  by_cases hl : s.size ≤ 255
  · rw [split_short s hl] at h
    exact splitF_join _ _ _ h
  · rw [split_long s (by omega)] at h; simp at h

theorem low_len {n : Nat} (h : n ≤ 63) : low (UInt8.ofNat n) = UInt8.ofNat n := by
  apply low_id
  simp; omega

theorem preL_small (ls : List ByteArray) (h : ∀ x ∈ ls, x.size ≤ 63) : preL (ls.map small) = smallL (preL ls) := by
  induction ls with
  | nil => rfl
  | cons x r ih =>
    have hx := h x (List.mem_cons_self)
    have := ih (fun y hy => h y (List.mem_cons_of_mem _ hy))
    simp only [List.map_cons, preL, small_size, small_data, this]
    simp [smallL, low_len hx]

theorem joinL_small {s : ByteArray} {ls : List ByteArray} (h : split s = some ls) : (⟨(joinL (ls.map small)).toArray⟩ : ByteArray) = small s := by
  obtain ⟨h1, h2⟩ := split_join h
  apply ba_ext
  rw [small_data, ← h1]
  simp only [joinL]
  rw [preL_small ls (fun x hx => (h2 x hx).2)]
  simp [smallL, low]

theorem wsum_small (ls : List ByteArray) : wsum (ls.map small) = wsum ls := by
  induction ls with
  | nil => rfl
  | cons x r ih => simp only [List.map_cons, wsum, small_size, ih]

def foldS (s : ByteArray) : ByteArray := if (split s).isSome then small s else ByteArray.empty
theorem foldS_none {s : ByteArray} (h : split s = none) : foldS s = ByteArray.empty := by simp [foldS, h]
theorem foldS_some {s : ByteArray} {ls : List ByteArray} (h : split s = some ls) : foldS s = small s := by simp [foldS, h]

end Go.Proofs.Ythhagapmcbkeiaa.Nm
/- spec.l02Num by its contract. -/
namespace Go.Proofs.Ythhagapmcbkeiaa
open Go.RowKit

end Go.Proofs.Ythhagapmcbkeiaa
/- A step of a drawn region: append onto a row of one's own. -/
namespace Go.Proofs.Ythhagapmcbkeiaa
open Go
set_option linter.unusedVariables false

theorem step_append_own {P : Program} {ops : Array Oper} {o : Oper} {a : Act} {w : World} {K : Act → World → Prop} {Q : Exit → Act → World → Prop} {E : Prop} (hgd : o.guard = none) (s x : Operand) (t : TypeId)
    (ho : o.op = .call { callee := .builtin .append, args := #[s, x], argTypes := #[t, t] })
    (base : Nat) (e : TypeId) (i : TypeInfo) (z : Value) (size bytes : Nat) (ht : P.underlying t = some (.slice e)) (hi : P.info? e = some i) (hz : i.zero = some z)
    (hsize : i.size = size) (hby : i.bytes = bytes) (hzs : z.cells.size = size) (hsz : 0 < size)
    (v : Value) (n : Nat) (xs : List Value) (hs : a.eval s = v) (hown : w.ownsRow base e size v n xs)
    (ad : Addr) (m c : Nat) (news : List Value) (hx : a.eval x = .slice (some ad) m c) (hl : news.length = m * size) (hnews : ∀ j u, news[j]? = some u → w.cell? (ad.add j) = some u) (h1 : ∀ u ∈ news, u.oneCell' = true)
    (h63 : n + m ≤ maxLen) (hbytes : (n + m) * bytes ≤ 140737488355328) (hbase : base ≤ w.heap.size)
    (h : ∀ v' w', w'.ownsRow base e size v' (n + m) (xs ++ news) → w.grownBy w' v.ownBlock → (v' = .slice none 0 0 ↔ v = .slice none 0 0 ∧ m = 0) → K (a.put o.dst v') w') :
    if Region.wanted o (yielded ops a.tmps) = true then Oper.wp P o a w K Q else E := by
  have hw : Region.wanted o (yielded ops a.tmps) = true := by simp [Region.wanted, hgd]
  rw [if_pos hw]
  exact wp_append_own w s x t ho base e i z size bytes ht hi hz hsize hby hzs hsz v n xs hs hown ad m c news hx hl hnews h1 h63 hbytes hbase h

end Go.Proofs.Ythhagapmcbkeiaa
/- A region whose last operation, a store, may break what is held: everything else waits for nothing of it. -/
namespace Go.Proofs.Ythhagapmcbkeiaa
open Go

section
variable {P : Program} {ops : Array Oper} {Q : Exit → Act → World → Prop} {md : Region.Mode} {S : World → Prop} {L : Nat}

/-- Whatever order is picked from here on, and S holds behind every operation but number L. -/
def wpAnyL (P : Program) (md : Region.Mode) (ops : Array Oper) (Q : Exit → Act → World → Prop) (S : World → Prop) (L : Nat) : Nat → Array Bool → Act → World → Prop
  | 0, listed, a, w => Region.ready md ops listed = [] ∧ Q .normal a w
  | fuel + 1, listed, a, w =>
    (Region.ready md ops listed = [] → Q .normal a w) ∧
    ∀ i ∈ Region.ready md ops listed, wpOp P ops Q i (fun a' w' => (i = L ∨ S w') ∧ wpAnyL P md ops Q S L fuel (listed.setIfInBounds i true) a' w') a w

theorem wpAny_of_last : ∀ (fuel : Nat) (listed : Array Bool) (a : Act) (w : World), wpAnyL P md ops Q S L fuel listed a w → wpAny P md ops Q fuel listed a w
  | 0, _, _, _, h => h
  | fuel + 1, _, _, _, h => ⟨h.1, fun i hi => wpOp_mono (fun a' w' h' => wpAny_of_last fuel _ a' w' h'.2) (h.2 i hi)⟩

/-- Number L waits for number i. -/
def waitsFor (md : Region.Mode) (ops : Array Oper) (L i : Nat) : Bool := match ops[L]? with
  | some o => o.after.any (fun e => Region.binds md e && e.on == i)
  | none => true

/-- Of two that may come up neither waits for the other. -/
theorem ready_free {listed : Array Bool} {i j : Nat} {oj : Oper} (hi : i ∈ Region.ready md ops listed) (hj : j ∈ Region.ready md ops listed) (ho : ops[j]? = some oj) : ∀ e ∈ oj.after, Region.binds md e = true → e.on ≠ i := by
  rintro e he hb rfl
  obtain ⟨_, o, ho2, hall⟩ := mem_ready.1 hj
  obtain rfl : oj = o := Option.some.inj (ho.symm.trans ho2)
  have h1 := hall e he hb
  have h0 := (mem_ready.1 hi).1
  rw [Array.getD_eq_getD_getElem?] at h0 h1
  cases hx : listed[e.on]? with
  | none => rw [hx] at h1; cases h1
  | some b => rw [hx] at h0 h1; simp only [Option.getD_some] at h0 h1; rw [h0] at h1; cases h1

/-- So number L does not come up ahead of what it waits for. -/
theorem last_waits {listed : Array Bool} {i j : Nat} (hL : waitsFor md ops L i = true) (hi : i ∈ Region.ready md ops listed) (hj : j ∈ Region.ready md ops listed) : j ≠ L := by
  rintro rfl
  obtain ⟨_, o, ho, _⟩ := mem_ready.1 hj
  rw [waitsFor, ho] at hL
  simp only [Array.any_eq_true', Bool.and_eq_true, beq_iff_eq] at hL
  obtain ⟨e, he, hb, h⟩ := hL
  exact ready_free hi hj ho e he hb h

/-- What nobody touches that may come ahead of it. -/
def Untouched (md : Region.Mode) (ops : Array Oper) (oi : Oper) (i : Nat) (listed : Array Bool) : Prop := ∀ j oj, ops[j]? = some oj → j ≠ i → listed.getD j true = false → (∀ e ∈ oj.after, Region.binds md e = true → e.on ≠ i) → oi.apart ops oj = true

theorem Untouched.more {oi : Oper} {i j : Nat} {listed : Array Bool} (h : Untouched md ops oi i listed) (hj : listed.getD j true = false) : Untouched md ops oi i (listed.setIfInBounds j true) := by
  intro k ok hk hki hun
  refine h k ok hk hki ?_
  rcases Nat.decEq j k with hne | rfl
  · rw [getD_set_ne true hne] at hun; exact hun
  · exact hj

theorem wpAnyL_first {i : Nat} {oi : Oper} {v : Value} (hi : ops[i]? = some oi) (hsel : ∀ (j : Nat) (o : Oper) cs b, ops[j]? = some o → o.op ≠ .select cs b)
    (hQ : ∀ c a w, Q (.panic c) (a.put oi.dst v) w → Q (.panic c) a w) (hL : waitsFor md ops L i = true) (fuel : Nat) :
    ∀ (listed : Array Bool) (a : Act) (w : World), Untouched md ops oi i listed → i ∈ Region.ready md ops listed → YieldsIf P ops S oi v a → S w →
      wpAnyL P md ops Q S L fuel (listed.setIfInBounds i true) (a.put oi.dst v) w → wpAnyL P md ops Q S L (fuel + 1) listed a w := by
  induction fuel with
  | zero =>
    intro listed a w _ hr hy hS H
    refine ⟨fun h => absurd (h ▸ hr) (by simp), fun j hj => ?_⟩
    rcases Nat.decEq j i with hne | rfl
    · exact absurd (H.1 ▸ ready_mono hj hne) (by simp)
    · exact hy.wpOp hi hS ⟨.inr hS, H⟩
  | succ fuel ih =>
    intro listed a w hun hr hy hS H
    refine ⟨fun h => absurd (h ▸ hr) (by simp), fun j hj => ?_⟩
    rcases Nat.decEq j i with hne | rfl
    · obtain ⟨hju, oj, hoj, _⟩ := mem_ready.1 hj
      have hstep := wpOp_putIf hoj (hun j oj hoj hne hju (ready_free hr hj hoj)) (fun cs b => hsel i oi cs b hi) (fun cs b => hsel j oj cs b hoj) hQ hy (H.2 j (ready_mono hj hne))
      refine wpOp_mono (fun a' w' ⟨hy', hS', hW⟩ => ?_) hstep
      have hSw := hS'.resolve_left (last_waits hL hr hj)
      exact ⟨.inr hSw, ih _ a' w' (hun.more hju) (ready_mono hr (Ne.symm hne)) hy' hSw (by rw [Array.setIfInBounds_comm _ _ hne]; exact hW)⟩
    · exact hy.wpOp hi hS ⟨.inr hS, H⟩

/-- Take number i first. -/
theorem wpAnyL_take {i : Nat} {oi : Oper} {v : Value} {fuel : Nat} {listed : Array Bool} {a : Act} {w : World} (hi : ops[i]? = some oi)
    (hs : Region.noSelect ops = true) (hf : Region.free md ops listed i = true) (hr : (Region.ready md ops listed).contains i = true) (hL : waitsFor md ops L i = true)
    (hQ : ∀ c a w, Q (.panic c) (a.put oi.dst v) w → Q (.panic c) a w) (hy : YieldsIf P ops S oi v a) (hS : S w)
    (h : wpAnyL P md ops Q S L fuel (listed.setIfInBounds i true) (a.put oi.dst v) w) : wpAnyL P md ops Q S L (fuel + 1) listed a w :=
  wpAnyL_first hi (Region.noSelect_spec hs) hQ hL fuel listed a w (Region.free_spec hi hf) (by simpa using hr) hy hS h

/-- Just one may come up, and it is not number L. -/
theorem wpAnyL_one {i : Nat} {o : Oper} {fuel : Nat} {listed : Array Bool} {a : Act} {w : World} (hr : Region.ready md ops listed = [i]) (ho : ops[i]? = some o)
    (h : ∀ K' : Act → World → Prop, Shut (∀ a w, S w → (S w → wpAnyL P md ops Q S L fuel (listed.setIfInBounds i true) a w) → K' a w) → if Region.wanted o (yielded ops a.tmps) = true then Oper.wp P o a w K' Q else K' (a.put o.dst undef) w) :
    wpAnyL P md ops Q S L (fuel + 1) listed a w := by
  refine ⟨fun h0 => (by rw [hr] at h0; cases h0), fun j hj => ?_⟩
  rw [hr] at hj
  obtain rfl : j = i := by simpa using hj
  exact wpOp_step ho (fun K' hK => h K' (fun a w hS hW => hK a w ⟨.inr hS, hW hS⟩))

/-- Number L comes up, the last of all. -/
theorem wpAnyL_end {o : Oper} {fuel : Nat} {listed : Array Bool} {a : Act} {w : World} (hr : Region.ready md ops listed = [L]) (ho : ops[L]? = some o) (he : Region.ready md ops (listed.setIfInBounds L true) = [])
    (h : ∀ K' : Act → World → Prop, Shut (∀ a w, Q .normal a w → K' a w) → if Region.wanted o (yielded ops a.tmps) = true then Oper.wp P o a w K' Q else K' (a.put o.dst undef) w) :
    wpAnyL P md ops Q S L (fuel + 1) listed a w := by
  refine ⟨fun h0 => (by rw [hr] at h0; cases h0), fun j hj => ?_⟩
  rw [hr] at hj
  obtain rfl : j = L := by simpa using hj
  refine wpOp_step ho (fun K' hK => h K' (fun a w hq => hK a w ⟨.inl rfl, ?_⟩))
  cases fuel with
  | zero => exact ⟨he, hq⟩
  | succ n => exact ⟨fun _ => hq, by rw [he]; intro i hi; cases hi⟩

theorem wp_region_last {id : Nat} {a : Act} {w : World} (S : World → Prop) (L : Nat) (hm : P.follows .mixedOrders = true) (hS : S w.drew)
    (h : S w.drew → wpAnyL P .any ops Q S L ops.size (Array.replicate ops.size false) a w.drew) : (Code.region id ops true).wp P Q a w :=
  wp_region_any hm (wpAny_of_last _ _ _ _ (h hS))
end
end Go.Proofs.Ythhagapmcbkeiaa
/- A region in whatever order: its end; two at once. -/
namespace Go.Proofs.Ythhagapmcbkeiaa
open Go

section
variable {P : Program} {ops : Array Oper} {Q : Exit → Act → World → Prop} {md : Region.Mode} {S : World → Prop} {L : Nat}

/-- All have come up. -/
theorem wpAnyL_done {fuel : Nat} {listed : Array Bool} {a : Act} {w : World} (hr : Region.ready md ops listed = []) (hq : Q .normal a w) : wpAnyL P md ops Q S L fuel listed a w := by
  cases fuel with
  | zero => exact ⟨hr, hq⟩
  | succ n => exact ⟨fun _ => hq, by rw [hr]; intro i hi; cases hi⟩

/-- Just two may come up. -/
theorem wpAnyL_two {i j : Nat} {o o' : Oper} {fuel : Nat} {listed : Array Bool} {a : Act} {w : World} (hr : Region.ready md ops listed = [i, j]) (ho : ops[i]? = some o) (ho' : ops[j]? = some o')
    (h : ∀ K' : Act → World → Prop, Shut (∀ a w, S w → (S w → wpAnyL P md ops Q S L fuel (listed.setIfInBounds i true) a w) → K' a w) → if Region.wanted o (yielded ops a.tmps) = true then Oper.wp P o a w K' Q else K' (a.put o.dst undef) w)
    (h' : ∀ K' : Act → World → Prop, Shut (∀ a w, S w → (S w → wpAnyL P md ops Q S L fuel (listed.setIfInBounds j true) a w) → K' a w) → if Region.wanted o' (yielded ops a.tmps) = true then Oper.wp P o' a w K' Q else K' (a.put o'.dst undef) w) :
    wpAnyL P md ops Q S L (fuel + 1) listed a w := by
  refine ⟨fun h0 => (by rw [hr] at h0; cases h0), fun k hk => ?_⟩
  rw [hr] at hk
  rcases (show k = i ∨ k = j by simpa using hk) with rfl | rfl
  · exact wpOp_step ho (fun K' hK => h K' (fun a w hS hW => hK a w ⟨.inr hS, hW hS⟩))
  · exact wpOp_step ho' (fun K' hK => h' K' (fun a w hS hW => hK a w ⟨.inr hS, hW hS⟩))

end
end Go.Proofs.Ythhagapmcbkeiaa
