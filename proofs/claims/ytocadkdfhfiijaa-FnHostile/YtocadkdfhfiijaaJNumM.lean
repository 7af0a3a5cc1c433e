import Derived.Test.YtocadkdfhfiijaaJMath
import Derived.Test.YtocadkdfhfiijaaJWtG
import Derived.Test.YtocadkdfhfiijaaJDrF
import Derived.Test.YtocadkdfhfiijaaJBytesRow
import Derived.Test.YtocadkdfhfiijaaRows
import Derived.WalkSpells
import Derived.WalkLawsBesides
import Derived.RegionTactic
import Derived.BigRegion
import Derived.BigQuiet
import Derived.Deep.QuietTactic
import Derived.OpenShut
import Derived.Test.YtocadkdfhfiijaaSDn
import Derived.Test.YtocadkdfhfiijaaJWtQ
import Derived.Test.YtocadkdfhfiijaaJSCheck
/- The number of some bytes: mathematics. -/
namespace Go.Proofs.Ytocadkdfhfiijaa
open Go.RowKit

/-- The number of some bytes, the high one first. -/
def numL (l : List UInt8) : Nat := l.foldl (fun n c => n * 256 + c.toNat) 0

theorem numL_snoc (l : List UInt8) (c : UInt8) : numL (l ++ [c]) = numL l * 256 + c.toNat := by simp [numL]

theorem fold_lt : ∀ (l : List UInt8) (a : Nat), l.foldl (fun n c => n * 256 + c.toNat) a < (a + 1) * 256 ^ l.length := by
  intro l
  induction l with
  | nil => intro a; simp
  | cons c l ih =>
    intro a
    rw [List.foldl_cons, List.length_cons, Nat.pow_succ]
    refine Nat.lt_of_lt_of_le (ih _) ?_
    have hc := c.toNat_lt
    have h1 : a * 256 + c.toNat + 1 ≤ (a + 1) * 256 := by omega
    calc (a * 256 + c.toNat + 1) * 256 ^ l.length ≤ ((a + 1) * 256) * 256 ^ l.length := Nat.mul_le_mul_right _ h1
      _ = (a + 1) * (256 ^ l.length * 256) := by rw [Nat.mul_assoc, Nat.mul_comm 256]

theorem numL_lt (l : List UInt8) : numL l < 256 ^ l.length := by
  have := fold_lt l 0
  rw [Nat.zero_add, Nat.one_mul] at this
  exact this

theorem numL_small {l : List UInt8} (h : l.length ≤ 6) : numL l < 281474976710656 := by
  have h1 := numL_lt l
  have h2 : 256 ^ l.length ≤ 256 ^ 6 := Nat.pow_le_pow_right (by decide) h
  have h3 : (256 : Nat) ^ 6 = 281474976710656 := by decide
  omega

end Go.Proofs.Ytocadkdfhfiijaa
/- The bits of a head: mathematics. -/
namespace Go.Proofs.Ytocadkdfhfiijaa
open Go.RowKit

theorem i64_and_nat (a b : Nat) (ha : a < 9223372036854775808) (hb : b < 9223372036854775808) : bits .and .i64 (a : Int) (b : Int) = ((a &&& b : Nat) : Int) := by
  have hx : a &&& b ≤ a := Nat.and_le_left
  show IntKind.i64.wrap ((BitVec.ofInt 64 (a : Int) &&& BitVec.ofInt 64 (b : Int)).toNat : Int) = _
  rw [BitVec.toNat_and, ofInt_u64 a (by omega), ofInt_u64 b (by omega)]
  exact wrap_pos _ (by omega)

theorem and_bit (f i : Nat) : (f &&& 2 ^ i ≠ 0) ↔ f.testBit i = true := by
  constructor
  · intro h
    refine Classical.byContradiction fun hn => h ?_
    apply Nat.eq_of_testBit_eq
    intro j
    rw [Nat.testBit_and, Nat.testBit_two_pow, Nat.zero_testBit]
    by_cases e : i = j
    · subst e; simp_all
    · simp [e]
  · intro h h0
    have := congrArg (fun n => n.testBit i) h0
    simp [Nat.testBit_and, h, Nat.testBit_two_pow_self] at this

theorem flag_and (f i : Nat) (hf : f < 65536) (hi : i < 16) (c : Int) (hc : c = ((2 ^ i : Nat) : Int)) : (bits .and .i64 (f : Int) c != 0) = f.testBit i := by
  have h2 : 2 ^ i < 9223372036854775808 := Nat.lt_of_le_of_lt (Nat.pow_le_pow_right (by decide) (show i ≤ 16 by omega)) (by decide)
  rw [hc, i64_and_nat f (2 ^ i) (by omega) h2]
  rw [Bool.eq_iff_iff, ← and_bit, bne_iff_ne]
  omega

theorem flag_shr (f i : Nat) (hf : f < 65536) : (bits .and .i64 ((f / 2 ^ i : Nat) : Int) 1 == 1) = f.testBit i := by
  have h1 : f / 2 ^ i ≤ f := Nat.div_le_self _ _
  have := i64_and_nat (f / 2 ^ i) 1 (by omega) (by decide)
  rw [show ((1 : Nat) : Int) = 1 from rfl] at this
  rw [this, Nat.and_one_is_mod, Nat.testBit_eq_decide_div_mod_eq, Bool.eq_iff_iff, decide_eq_true_iff, beq_iff_eq]
  omega

theorem and_15 (n : Nat) (h : n < 65536) : bits .and .i64 (n : Int) 15 = ((n % 16 : Nat) : Int) := by
  have := i64_and_nat n 15 (by omega) (by decide)
  rw [show ((15 : Nat) : Int) = 15 from rfl] at this
  rw [this, show (15 : Nat) = 2 ^ 4 - 1 from rfl, Nat.and_two_pow_sub_one_eq_mod]

/-- The number of two bytes at a place. -/
def n16 (l : List UInt8) (i : Nat) : Nat := numL ((l.drop i).take 2)

theorem n16_lt (l : List UInt8) (i : Nat) : n16 l i < 65536 := by
  have h := numL_lt ((l.drop i).take 2)
  have h2 : ((l.drop i).take 2).length ≤ 2 := by simp; omega
  have h3 : 256 ^ ((l.drop i).take 2).length ≤ 256 ^ 2 := Nat.pow_le_pow_right (by decide) h2
  unfold n16
  omega

/-- A head's fields, out of its two numbers. -/
def hdA (d f : Nat) : Array Value := #[.int .i64 d, .bool (f.testBit 15), .int .i64 ((f / 2048 % 16 : Nat) : Int), .bool (f.testBit 10), .bool (f.testBit 9), .bool (f.testBit 8), .bool (f.testBit 7), .bool (f.testBit 6), .bool (f.testBit 5), .bool (f.testBit 4), .int .i64 ((f % 16 : Nat) : Int)]

/-- The head of nothing. -/
def hd0 : Array Value := #[.int .i64 0, .bool false, .int .i64 0, .bool false, .bool false, .bool false, .bool false, .bool false, .bool false, .bool false, .int .i64 0]

/-- The four counts. -/
def ctA (l : List UInt8) : Array Value := #[.int .i64 (n16 l 4), .int .i64 (n16 l 6), .int .i64 (n16 l 8), .int .i64 (n16 l 10)]
def ct0 : Array Value := #[.int .i64 0, .int .i64 0, .int .i64 0, .int .i64 0]
end Go.Proofs.Ytocadkdfhfiijaa
/- A message's records: mathematics. -/
namespace Go.Proofs.Ytocadkdfhfiijaa

/-- Some bytes of a message. -/
def cutL (l : List UInt8) (p n : Nat) : List UInt8 := (l.drop p).take n

theorem cutL_length {l : List UInt8} {p n : Nat} (h : p + n ≤ l.length) : (cutL l p n).length = n := by simp [cutL]; omega

theorem cutL_add {l : List UInt8} {p n m : Nat} : cutL l p (n + m) = cutL l p n ++ cutL l (p + n) m := by
  simp [cutL, List.take_add]

/-- Data up to a place, by its pieces: none is a name, some n are n bytes. -/
def dtP (l : List UInt8) (fin : Nat) : List (Option Nat) → Nat → List UInt8 → Rs (List UInt8)
  | [], p, acc => if p = fin then .ok acc fin else .bad 7
  | none :: ps, p, acc => match dnF l p p [] none with
    | .inl c => .bad c
    | .inr (s, nx) => if nx ≤ fin then dtP l fin ps nx (acc ++ s) else .bad 7
  | some n :: ps, p, acc => if p + n ≤ fin then dtP l fin ps (p + n) (acc ++ cutL l p n) else .bad 7

theorem dtP_bytes (l : List UInt8) (fin : Nat) : ∀ (n p : Nat) (acc : List UInt8), p ≤ fin → dtP l fin (List.replicate n (some 1)) p acc = dtP l fin [some n] p acc := by
  intro n
  induction n with
  | zero => intro p acc h; simp [dtP, cutL, h]
  | succ n ih =>
    intro p acc h
    rw [List.replicate_succ, dtP]
    by_cases h1 : p + 1 ≤ fin
    · rw [if_pos h1, ih (p + 1) _ h1, dtP, dtP]
      have e : p + 1 + n = p + (n + 1) := by omega
      rw [e, List.append_assoc, ← cutL_add, Nat.add_comm 1 n, dtP, dtP]
    · rw [if_neg h1, dtP, if_neg (by omega)]


def piecesOf (t : Nat) : List (Option Nat) := if t = 6 then [none, none, some 20] else if t = 15 then [some 2, none] else [none]

/-- A record's data. -/
def dataS (l : List UInt8) (t p fin : Nat) : Rs (List UInt8) :=
  if p = fin then .ok [] fin
  else if pointed t then dtP l fin (piecesOf t) p []
  else if cutCode t ⟨(cutL l p (fin - p)).toArray⟩ = 0 then .ok (cutL l p (fin - p)) fin else .bad 7

/-- The number of four bytes at a place. -/
def n32 (l : List UInt8) (i : Nat) : Nat := numL (cutL l i 4)

theorem n32_lt (l : List UInt8) (i : Nat) : n32 l i < 4294967296 := by
  have h := numL_lt (cutL l i 4)
  have h2 : (cutL l i 4).length ≤ 4 := by simp [cutL]; omega
  have h3 : 256 ^ (cutL l i 4).length ≤ 256 ^ 4 := Nat.pow_le_pow_right (by decide) h2
  unfold n32
  omega

/-- A question: its name, type and class. -/
structure Qm where
  name : List UInt8
  ty : Nat
  cl : Nat

/-- A record. -/
structure Rm where
  owner : List UInt8
  ty : Nat
  cl : Nat
  ttl : Nat
  dat : List UInt8

def quS (l : List UInt8) (p : Nat) : Rs Qm :=
  match dnF l p p [] none with
  | .inl c => .bad c
  | .inr (s, nx) => if nx + 4 ≤ l.length then .ok ⟨s, n16 l nx, n16 l (nx + 2)⟩ (nx + 4) else .bad 8

def rrS (l : List UInt8) (p : Nat) : Rs Rm :=
  match dnF l p p [] none with
  | .inl c => .bad c
  | .inr (s, nx) =>
    if nx + 10 ≤ l.length then
      if nx + 10 + n16 l (nx + 8) ≤ l.length then
        match dataS l (n16 l nx) (nx + 10) (nx + 10 + n16 l (nx + 8)) with
        | .inl c => .bad c
        | .inr (d, _) => .ok ⟨s, n16 l nx, n16 l (nx + 2), n32 l (nx + 4), d⟩ (nx + 10 + n16 l (nx + 8))
      else .bad 8
    else .bad 8

/-- So many entries, one behind the other. -/
def manyS {α : Type} (f : Nat → Rs α) : Nat → Nat → List α → Rs (List α)
  | 0, p, acc => .ok acc p
  | n + 1, p, acc => match f p with
    | .inl c => .bad c
    | .inr (x, q) => manyS f n q (acc ++ [x])

/-- What stands in a message's lists. -/
structure Mm where
  qs : List Qm
  an : List Rm
  au : List Rm
  ex : List Rm

/-- A message's entries behind its head. -/
def listsS (l : List UInt8) : Rs Mm :=
  match manyS (quS l) (n16 l 4) 12 [] with
  | .inl c => .bad c
  | .inr (qs, p1) => match manyS (rrS l) (n16 l 6) p1 [] with
    | .inl c => .bad c
    | .inr (an, p2) => match manyS (rrS l) (n16 l 8) p2 [] with
      | .inl c => .bad c
      | .inr (au, p3) => match manyS (rrS l) (n16 l 10) p3 [] with
        | .inl c => .bad c
        | .inr (ex, p4) => if p4 < l.length then .bad 10 else .ok ⟨qs, an, au, ex⟩ p4

/-- A message. -/
def msgS (l : List UInt8) : Rs Mm :=
  if 65535 < l.length then .bad 11
  else if l.length < 12 then .bad 8
  else if 400 < n16 l 4 + n16 l 6 + n16 l 8 + n16 l 10 then .bad 12
  else listsS l
end Go.Proofs.Ytocadkdfhfiijaa
/- impl.fail, (*reader).take by their contracts. -/
namespace Go.Proofs.Ytocadkdfhfiijaa
open Go.RowKit
set_option linter.unusedVariables false

/-- What a reader panics with. -/
def fault (c : Int) : List PanicEntry := [{ v := .iface 80 (.agg #[.int .i64 c]), recovered := false }]

set_option maxRecDepth 100000 in
set_option maxHeartbeats 400000 in
theorem fail_any (c : Int) (w : World) :
    Calls Try.prog 33 #[.int .i64 c] w fun e w' => e = .panicked (fault c) ∧ w' = w := by
  go_enter Try.func33, Try.ntmps33
  go_wp2
  simp [bodyPost, fault]

theorem bp_panic {P : Program} {f : Func} {R : Ending → World → Prop} {ch : List PanicEntry} {a : Act} {w : World} (hd : a.defers = []) (h : R (.panicked ch) w) : bodyPost P f R (.panic ch) a w := by
  simp only [bodyPost]
  exact ⟨hd, h⟩

/-- A reader lies in block g: its bytes' slice, its place. -/
def Rd (w : World) (g : Nat) (v : Value) (p : Nat) : Prop := w.heap[g]? = some (.cells #[v, .int .i64 p] 50 (0, 0))

/-- What take tells of a slice. -/
def cutV (a : Option Addr) (cap p size : Nat) : Value := if cap = p then .slice a size 0 else .slice (a.map (fun x => x.add p)) size (cap - p)

theorem grown_drew {w w' : World} {row : Option Nat} (h : w.grownBy w' row) : w.grownBy w'.drew row := ⟨h.os, h.tape, h.output, h.size, h.block⟩

theorem rd_set {w : World} {g p q : Nat} {v : Value} (h : Rd w g v p) : Rd (w.setCell ⟨g, 1, none⟩ (.int .i64 q)) g v q ∧ w.grownBy (w.setCell ⟨g, 1, none⟩ (.int .i64 q)) (some g) := by
  refine ⟨?_, ⟨rfl, rfl, rfl, by simp, fun k _ hk => heap_setCell_other w ⟨g, 1, none⟩ k _ (fun e => hk (by simp [e]))⟩⟩
  unfold Rd
  rw [heap_setCell_same w g 1 _ _ _ h]; rfl

set_option maxRecDepth 100000 in
set_option maxHeartbeats 800000 in
theorem take_any (g : Nat) (a : Option Addr) (n cap p size : Nat) (w : World) (h : Rd w g (.slice a n cap) p) (hp : p ≤ n) (hn : n ≤ cap) (hnn : n ≤ 1048576) (hs : size ≤ 65535) :
    Calls Try.prog 74 #[.pointer (some ⟨g, 0, none⟩), .int .i64 size] w fun e w' =>
      (p + size ≤ n ∧ e = .returned (cutV a cap p size) ∧ Rd w' g (.slice a n cap) (p + size) ∧ w.grownBy w' (some g)) ∨
      (n < p + size ∧ e = .panicked (fault 8) ∧ w.grownBy w' (some g)) := by
  have c0 : w.cell? ⟨g, 0, none⟩ = some (.slice a n cap) := by rw [cell_of_row _ _ _ _ _ _ h]; rfl
  have c1 : w.cell? ⟨g, 1, none⟩ = some (.int .i64 p) := by rw [cell_of_row _ _ _ _ _ _ h]; rfl
  have f0 := frozen_of_row w g 0 _ _ h
  have f1 := frozen_of_row w g 1 _ _ h
  by_cases hlt : n < p + size
  · have hlt' : (n : Int) - (p : Int) < (size : Int) := by omega
    go_enter Try.func74, Try.ntmps74
    go_wp2
    go_region
    go_wp2_with (go_at_call 33; refine (fail_any 8 _).mono ?_; rintro e w1 ⟨rfl, rfl⟩)
    refine bp_panic rfl ?_
    exact .inr ⟨hlt, rfl, grown_drew (World.grownBy.refl _ _)⟩
  · have hlt' : (size : Int) ≤ (n : Int) - (p : Int) := by omega
    have HS := Nm.hide (rd_set (q := p + size) h)
    simp only [Int.natCast_add] at HS
    have HL : Hid (p + size ≤ n) := by exact Nat.le_of_not_lt hlt
    have hcell := fun q => (World.cell?_setCell_other w ⟨g, 1, none⟩ ⟨g, 0, none⟩ (.int .i64 q) (by simp))
    clear hlt
    by_cases hcp : cap = p
    · subst hcp
      go_enter Try.func74, Try.ntmps74
      go_wp2
      go_region
      go_wp2
      go_region
      go_wp2
      go_ret
      exact .inl ⟨HL.out, by simp [cutV], HS.out.1, grown_drew (grown_drew HS.out.2)⟩
    · go_enter Try.func74, Try.ntmps74
      go_wp2
      go_region
      go_wp2
      go_region
      go_wp2
      go_ret
      exact .inl ⟨HL.out, by simp [cutV, hcp], HS.out.1, grown_drew (grown_drew HS.out.2)⟩
end Go.Proofs.Ytocadkdfhfiijaa
/- impl.readBig by its contract. -/
namespace Go.Proofs.Ytocadkdfhfiijaa
open Go.RowKit

theorem or4 (a b c d : Nat) (ha : a < 256) (hb : b < 256) (hc : c < 256) (hd : d < 256) :
    bits .or .i64 (bits .or .i64 (bits .or .i64 ((a : Int) * 16777216) ((b : Int) * 65536)) ((c : Int) * 256)) (d : Int) = ((((a * 256 + b) * 256 + c) * 256 + d : Nat) : Int) := by
  have e1 : (a : Int) * 16777216 = ((2 ^ 24 * a : Nat) : Int) := by omega
  have e2 : (b : Int) * 65536 = ((b * 65536 : Nat) : Int) := by omega
  have e3 : (c : Int) * 256 = ((c * 256 : Nat) : Int) := by omega
  rw [e1, e2, e3, or_join 24 a _ (by omega) (by omega)]
  have e4 : 2 ^ 24 * a + b * 65536 = 2 ^ 16 * (a * 256 + b) := by omega
  rw [e4, or_join 16 _ _ (by omega) (by omega)]
  have e5 : 2 ^ 16 * (a * 256 + b) + c * 256 = 2 ^ 8 * ((a * 256 + b) * 256 + c) := by omega
  rw [e5, or_join 8 _ _ (by omega) (by omega)]
  congr 1
  omega

def num4 (a b c d : UInt8) : Nat := ((a.toNat * 256 + b.toNat) * 256 + c.toNat) * 256 + d.toNat

theorem big_step (m : Nat) (c : UInt8) (h : m < 281474976710656) : bits .or .i64 ((m : Int) * 256) (c.toNat : Int) = ((m * 256 + c.toNat : Nat) : Int) := by
  have hc := c.toNat_lt
  have e : (m : Int) * 256 = ((2 ^ 8 * m : Nat) : Int) := by omega
  rw [e, or_join 8 m _ (by omega) (by omega)]
  congr 1
  omega

set_option maxRecDepth 100000 in
set_option maxHeartbeats 400000 in
theorem readBig_any (s : ByteArray) (w : World) (hs : s.size ≤ 6) :
    Calls Try.prog 73 #[.string s] w fun e w' => e = .returned (.int .i64 (numL s.data.toList)) ∧ w' = w := by
  go_enter Try.func73, Try.ntmps73
  go_wp2
  go_loop [3, 7] (fun u v => ∃ k : Nat, k ≤ s.size ∧ v = .int .i64 k ∧ u = .int .i64 (numL (s.data.toList.take k))) (fun _ v => s.size - (intOf v).toNat)
  case atStart => exact ⟨0, Nat.zero_le _, rfl, rfl⟩
  case round =>
    obtain ⟨k, hk, rfl, rfl⟩ := hrel
    by_cases hlt : k < s.size
    · have hd := Nm.get_data hlt
      have e1 : s.data.toList.take (k + 1) = s.data.toList.take k ++ [s[k]] := Nm.take_step hd
      have hb := numL_small (l := s.data.toList.take k) (by simp; omega)
      have e2 := numL_snoc (s.data.toList.take k) s[k]
      rw [← e1] at e2
      have hc : (s[k].toNat : Int) < 256 := by have := s[k].toNat_lt; omega
      have hlt' : (k : Int) < (s.size : Int) := by omega
      have HB := Nm.hide (big_step (numL (s.data.toList.take k)) s[k] hb)
      generalize numL (s.data.toList.take k) = m at *
      clear e1 hd
      go_wp2
      go_round
      case rel => exact ⟨k + 1, by omega, by go_num, by rw [e2, ← HB.out]⟩
      case measure => simp [intOf]; omega
    · have hke : k = s.size := by omega
      subst hke
      have et : s.data.toList.take s.size = s.data.toList := List.take_of_length_le (by simp)
      rw [et]
      go_wp2
      go_ret
      exact ⟨rfl, rfl⟩
end Go.Proofs.Ytocadkdfhfiijaa
/- (*reader).number by its contract. -/
namespace Go.Proofs.Ytocadkdfhfiijaa
open Go.RowKit
set_option linter.unusedVariables false

theorem by_drop {l : List UInt8} {p size : Nat} : Nm.bys ((l.drop p).take size) = ((Nm.bys l).drop p).take size := by
  simp [Nm.bys]

/-- What take tells leads to the bytes from the place on. -/
theorem cut_row {w : World} {a : Option Addr} {l : List UInt8} {cap p size : Nat} (h : BySl w (.slice a l.length cap) l) (hp : p + size ≤ l.length) : CRow w (cutV a cap p size) size 1 (Nm.bys ((l.drop p).take size)) := by
  obtain ⟨_, a', cap', e, h1, h2, h3⟩ := h
  simp only [Value.slice.injEq] at e
  obtain ⟨rfl, _, rfl⟩ := e
  have hlen : (Nm.bys ((l.drop p).take size)).length = size * 1 := by rw [Nm.bys_length]; simp; omega
  refine ⟨hlen, ?_⟩
  by_cases hcp : cap = p
  · refine ⟨a, 0, by rw [cutV, if_pos hcp], by omega, by omega, fun h => by omega⟩
  · refine ⟨a.map (fun x => x.add p), cap - p, by rw [cutV, if_neg hcp], by omega, by omega, fun h => ?_⟩
    obtain ⟨b, off, rfl, hc⟩ := h3 (by omega)
    refine ⟨b, off + p, by simp [Nm.addr_add], fun i x hx => ?_⟩
    rw [by_drop, List.getElem?_take] at hx
    split at hx
    · rw [List.getElem?_drop] at hx
      rw [Nat.add_assoc]
      exact hc _ _ hx
    · cases hx

theorem cut_str {w : World} {v : Value} {l : List UInt8} {n : Nat} (h : CRow w v n 1 (Nm.bys l)) : (convert 22 9 v).run Try.prog w = .ok (.string ⟨l.toArray⟩) w := by
  obtain ⟨hl, a, cap, rfl, h1, h2, h3⟩ := h
  rw [Nm.bys_length, Nat.mul_one] at hl
  subst hl
  rcases Nat.eq_zero_or_pos l.length with h0 | hpos
  · have : l = [] := List.length_eq_zero_iff.1 h0
    subst this
    cases a with
    | none => exact (run_convert_bytes_string w 22 9 5 none 0 cap Try.underlying22 Try.underlying5 Try.underlying9).trans rfl
    | some x => exact run_convert_bytes_back w 22 9 5 x cap [] Try.underlying22 Try.underlying5 Try.underlying9 (by intro j hj; simp at hj)
  · obtain ⟨b, off, rfl, hc⟩ := h3 hpos
    refine run_convert_bytes_back w 22 9 5 ⟨b, off, none⟩ cap l Try.underlying22 Try.underlying5 Try.underlying9 ?_
    intro j hj
    rw [Nm.addr_add]
    exact hc j _ (by simp [Nm.bys, hj])

set_option maxRecDepth 100000 in
set_option maxHeartbeats 800000 in
theorem number_any (g : Nat) (a : Option Addr) (l : List UInt8) (cap p size : Nat) (w : World) (h : Rd w g (.slice a l.length cap) p) (hl : BySl w (.slice a l.length cap) l) (hfar : ∀ w', w.grownBy w' (some g) → BySl w' (.slice a l.length cap) l) (hp : p ≤ l.length) (hnn : l.length ≤ 1048576) (hs : size ≤ 6) :
    Calls Try.prog 57 #[.pointer (some ⟨g, 0, none⟩), .int .i64 size] w fun e w' =>
      (p + size ≤ l.length ∧ e = .returned (.int .i64 (numL ((l.drop p).take size))) ∧ Rd w' g (.slice a l.length cap) (p + size) ∧ w.grownBy w' (some g)) ∨
      (l.length < p + size ∧ e = .panicked (fault 8) ∧ w.grownBy w' (some g)) := by
  have hcap : l.length ≤ cap := by
    obtain ⟨_, a', cap', e, h1, _⟩ := hl
    simp only [Value.slice.injEq] at e
    obtain ⟨rfl, _, rfl⟩ := e
    exact h1
  have ht := take_any g a l.length cap p size w h hp hcap hnn (by omega)
  by_cases hlt : p + size ≤ l.length
  · have hcv := fun W (h : w.grownBy W (some g)) => cut_str (cut_row (hfar W h) hlt)
    have hrb := fun W => readBig_any ⟨((l.drop p).take size).toArray⟩ W (by show ((l.drop p).take size).toArray.size ≤ 6; simp; omega)
    generalize hq : cutV a cap p size = q at *
    have hlt2 : ¬ l.length < p + size := by omega
    simp only [hlt, hlt2, true_and, false_and, or_false] at ht
    go_enter Try.func57, Try.ntmps57
    go_wp2_with (first | (go_at_call 74; refine ht.mono ?_; rintro e w1 ⟨rfl, hr1, hg1⟩; have hcv1 := hcv w1 hg1) | (go_at_call 73; refine (hrb _).mono ?_; rintro e w2 ⟨rfl, rfl⟩))
    go_ret
    exact .inl ⟨hlt, rfl, hr1, hg1⟩
  · have hlt2 : l.length < p + size := by omega
    simp only [hlt, hlt2, true_and, false_and, false_or] at ht
    go_enter Try.func57, Try.ntmps57
    go_wp2_with (go_at_call 74; refine ht.mono ?_; rintro e w1 ⟨rfl, hg1⟩)
    refine bp_panic rfl ?_
    exact .inr ⟨hlt2, rfl, hg1⟩
end Go.Proofs.Ytocadkdfhfiijaa
/- spec.l04Pointed and spec.l04Data by their contracts. -/
namespace Go.Proofs.Ytocadkdfhfiijaa
open Go.RowKit
set_option linter.unusedVariables false


theorem dtP_many (l : List UInt8) (fin : Nat) (ps : List (Option Nat)) : ∀ (n p : Nat) (acc : List UInt8), p ≤ fin → dtP l fin (List.replicate n (some 1) ++ ps) p acc = dtP l fin (some n :: ps) p acc := by
  intro n
  induction n with
  | zero => intro p acc h; simp [dtP, cutL, h]
  | succ n ih =>
    intro p acc h
    rw [List.replicate_succ, List.cons_append, dtP]
    by_cases h1 : p + 1 ≤ fin
    · rw [if_pos h1, ih (p + 1) _ h1, dtP, dtP]
      have e : p + 1 + n = p + (n + 1) := by omega
      rw [e, List.append_assoc, ← cutL_add, Nat.add_comm 1 n]
    · rw [if_neg h1, dtP, if_neg (by omega)]

/-- The model's pieces: a sign each. -/
def pcC (c : UInt8) : Option Nat := if c = 98 then some 1 else none

theorem spec_pieces {t : Nat} (h : pointed t) (l : List UInt8) (p fin : Nat) (hp : p ≤ fin) : dtP l fin ((Dt.formS t).data.toList.map pcC) p [] = dtP l fin (piecesOf t) p [] := by
  rcases h with rfl | rfl | rfl | rfl | rfl
  · rfl
  · rfl
  · show dtP l fin (none :: none :: (List.replicate 20 (some 1) ++ [])) p [] = dtP l fin [none, none, some 20] p []
    rw [dtP, dtP]
    split
    · rfl
    · split
      · rw [dtP, dtP]
        split
        · rfl
        · split
          · rename_i h2
            exact dtP_many l fin [] 20 _ _ h2
          · rfl
      · rfl
  · rfl
  · exact dtP_many l fin [none] 2 p [] hp

theorem form_signs {t : Nat} (h : pointed t) : ∀ i (hi : i < (Dt.formS t).size), (Dt.formS t)[i] = 98 ∨ (Dt.formS t)[i] = 110 := by
  rcases h with rfl | rfl | rfl | rfl | rfl <;> decide

/-- What l04Data answers. -/
def dtV : Rs (List UInt8) → Value
  | .inl c => .tuple #[.string ⟨#[]⟩, .int .i64 c]
  | .inr (d, _) => .tuple #[.string ⟨d.toArray⟩, .int .i64 0]

theorem mk_of {s : ByteArray} {l : List UInt8} (h : s.data.toList = l) : s = ⟨l.toArray⟩ := by
  subst h; simp

theorem dnS_at {l : List UInt8} {p : Nat} (h : p ≤ l.length) : dnS l (p : Int) = match dnF l p p [] none with | .inl c => ([], 0, c) | .inr (s, n) => (s, (n : Int), 0) := by
  rw [dnS, if_neg (by omega)]
  rfl

theorem dnF_code (l : List UInt8) (start pos : Nat) (acc : List UInt8) (nx : Option Nat) : ∀ c, dnF l start pos acc nx = .bad c → c ≠ 0 := by
  fun_induction dnF l start pos acc nx with
  | case1 => intro c e; cases e
  | case2 start pos acc nx h h0 h1 h2 h3 ih => exact ih
  | case6 start pos acc nx h h0 h1 h2 h3 h4 ih => exact ih
  | _ => intro c e; cases e; decide

theorem dnF_size2 (l : List UInt8) (start pos : Nat) (acc : List UInt8) (nx : Option Nat) : acc.length ≤ 254 → ∀ s q, dnF l start pos acc nx = .ok s q → s.length ≤ 255 := by
  fun_induction dnF l start pos acc nx with
  | case1 start pos acc nx h h0 => intro ha s q e; simp at e; obtain ⟨rfl, _⟩ := e; simp; omega
  | case2 start pos acc nx h h0 h1 h2 h3 ih => intro ha s q e; exact ih ha s q e
  | case6 start pos acc nx h h0 h1 h2 h3 h4 ih =>
    intro ha s q e
    refine ih ?_ s q e
    simp
    omega
  | _ => intro ha s q e; cases e

set_option maxRecDepth 100000 in
set_option maxHeartbeats 3200000 in
theorem l04Data_any (v : Value) (l : List UInt8) (t p fin : Nat) (w : World) (h : BySl w v l) (hl : l.length ≤ 1048576) (hp : p ≤ fin) (hfin : fin ≤ l.length) (hs : fin - p ≤ 65535) :
    Calls Try.prog 56 #[v, .int .i64 t, .int .i64 p, .int .i64 fin] w fun e w' => e = .returned (dtV (dataS l t p fin)) ∧ Below w.heap.size w w' := by
  have hby := h
  obtain ⟨hbl, a, cap, rfl, hcap, hmx, hc⟩ := h
  clear hc
  have hmp := fun W => l04Pointed_any t W
  by_cases h0 : p = fin
  · have HD : Hid (dtV (dataS l t p fin) = .tuple #[.string ⟨#[]⟩, .int .i64 0]) := by rw [Hid, dataS, if_pos h0]; rfl
    have h0' : ((p : Int) == (fin : Int)) = true := by rw [beq_iff_eq]; omega
    subst h0
    go_enter Try.func56, Try.ntmps56
    go_wp2
    go_ret2
    rw [HD.out]
    exact ⟨rfl, Below.refl _ _⟩
  · have h0' : ((p : Int) == (fin : Int)) = false := by rw [beq_eq_false_iff_ne]; omega
    by_cases hpt : pointed t
    · have hpd : decide (pointed t) = true := decide_eq_true hpt
      simp only [hpd] at hmp
      have HD : Hid (dataS l t p fin = dtP l fin ((Dt.formS t).data.toList.map pcC) p []) := by
        rw [Hid, dataS, if_neg h0, if_pos hpt, spec_pieces hpt l p fin hp]
      have hfm := fun W => l02Form_any (t : Int) W
      have hsg := form_signs hpt
      have hfl : (Dt.formS t).size ≤ 22 := by rcases hpt with rfl | rfl | rfl | rfl | rfl <;> decide
      rw [HD.out]
      clear HD hpd
      generalize Dt.formS t = fs at *
      generalize hR : dtP l fin (fs.data.toList.map pcC) p [] = R
      have hsd := fun (q : Nat) W (h : BySl W (.slice a l.length cap) l) => specDecodeName_any (.slice a l.length cap) l (q : Int) W h hl
      go_enter Try.func56, Try.ntmps56
      go_wp2_with (first | (go_at_call 48; refine (hmp _).mono ?_; rintro e w1 ⟨rfl, hw⟩; obtain rfl := hw.symm; clear hw) | (go_at_call 49; refine (hfm _).mono ?_; rintro e w2 ⟨rfl, hw⟩; obtain rfl := hw.symm; clear hw))
      go_loopw [2, 11, 13] (fun vp vo vi wr => ∃ (k pos : Nat) (s : ByteArray), k ≤ fs.size ∧ vi = .int .i64 k ∧ vp = .int .i64 pos ∧ pos ≤ fin ∧ vo = .string s ∧ s.size ≤ 256 * k ∧ Below w.heap.size w wr ∧ dtP l fin ((fs.data.toList.map pcC).drop k) pos s.data.toList = R)
        (fun _ _ vi _ => fs.size - (intOf vi).toNat)
      case atStart => exact ⟨0, p, _, Nat.zero_le _, rfl, rfl, hp, rfl, Nat.le_refl _, Below.refl _ _, hR⟩
      case round =>
        obtain ⟨k, pos, s, hk, rfl, rfl, hpos, rfl, hss, hbel, hres⟩ := hrel
        clear hR hmp hfm
        by_cases hlt : k < fs.size
        · have hlt' : (k : Int) < (fs.size : Int) := by omega
          have hdr : (fs.data.toList.map pcC).drop k = pcC fs[k] :: (fs.data.toList.map pcC).drop (k + 1) := by
            have h1 : k < (fs.data.toList.map pcC).length := by simp; exact hlt
            rw [List.drop_eq_getElem_cons h1]
            simp
            rfl
          rw [hdr] at hres
          rcases hsg k hlt with hb | hb
          · have hb' : ((fs[k].toNat : Int) == 98) = true := by rw [hb]; rfl
            rw [hb] at hres
            have e1 : pcC 98 = some 1 := rfl
            rw [e1, dtP] at hres
            by_cases hfit : pos + 1 ≤ fin
            · rw [if_pos hfit] at hres
              have hfit' : (pos : Int) < (fin : Int) := by omega
              obtain ⟨b, off, rfl, hcv⟩ := by_str hby (show pos + 1 ≤ l.length by omega) (by decide)
              have hcv1 := hcv wr hbel
              have hcp : ¬ cap = pos := by omega
              have hfc : (pos : Int) + 1 ≤ (cap : Int) := by omega
              have hsz : (ByteArray.mk ((l.drop pos).take 1).toArray).size = 1 := by show ((l.drop pos).take 1).toArray.size = 1; simp; omega
              have HRES : Hid (dtP l fin ((fs.data.toList.map pcC).drop (k + 1)) (pos + 1) (s ++ ⟨((l.drop pos).take 1).toArray⟩).data.toList = R) := by
                rw [Hid, ← hres]
                congr 1 <;> simp [cutL]
              generalize (⟨((l.drop pos).take 1).toArray⟩ : ByteArray) = x at *
              clear hres hcv hdr hsg hsd
              go_wp2
              go_roundw
              case rel => exact ⟨k + 1, pos + 1, s ++ x, by omega, by go_num, by go_num, hfit, rfl, by rw [ByteArray.size_append]; omega, hbel, HRES.out⟩
              case measure => simp [intOf]; omega
            · rw [if_neg hfit] at hres
              subst hres
              have hfit' : (fin : Int) ≤ (pos : Int) := by omega
              clear hdr hsg hsd
              go_wp2
              go_ret2
              exact ⟨rfl, hbel⟩
          · have hb' : ((fs[k].toNat : Int) == 98) = false := by rw [hb]; rfl
            rw [hb] at hres
            have e1 : pcC 110 = none := rfl
            rw [e1, dtP] at hres
            have hcall := hsd pos wr (hby.below hbel)
            rw [dnS_at (show pos ≤ l.length by omega)] at hcall
            cases hd : dnF l pos pos [] none using Rs.elim with
            | bad c =>
              rw [hd] at hres hcall
              simp only at hres hcall
              subst hres
              have hcn : (c != 0) = true := by rw [bne_iff_ne]; exact dnF_code l pos pos [] none c hd
              clear hdr hsg hsd
              go_wp2_with (go_at_call 30; refine hcall.mono ?_; rintro e w5 ⟨rfl, hb5⟩)
              go_ret2
              exact ⟨rfl, Nm.below_two hbel hb5⟩
            | ok nm nx =>
              rw [hd] at hres hcall
              simp only at hres hcall
              have hnl := dnF_size2 l pos pos [] none (by decide) nm nx hd
              by_cases hfit : nx ≤ fin
              · rw [if_pos hfit] at hres
                have hfit' : (nx : Int) ≤ (fin : Int) := by omega
                have hsz : (ByteArray.mk nm.toArray).size = nm.length := by show nm.toArray.size = _; simp
                have HRES : Hid (dtP l fin ((fs.data.toList.map pcC).drop (k + 1)) nx (s ++ ⟨nm.toArray⟩).data.toList = R) := by
                  rw [Hid, ← hres]
                  congr 1 <;> simp
                clear hres hdr hsg hsd
                go_wp2_with (go_at_call 30; refine hcall.mono ?_; rintro e w5 ⟨rfl, hb5⟩)
                go_roundw
                case rel => exact ⟨k + 1, nx, s ++ ⟨nm.toArray⟩, by omega, by go_num, by go_num, hfit, rfl, by rw [ByteArray.size_append]; omega, Nm.below_two hbel hb5, HRES.out⟩
                case measure => simp [intOf]; omega
              · rw [if_neg hfit] at hres
                subst hres
                have hfit' : (fin : Int) < (nx : Int) := by omega
                clear hdr hsg hsd
                go_wp2_with (go_at_call 30; refine hcall.mono ?_; rintro e w5 ⟨rfl, hb5⟩)
                go_ret2
                exact ⟨rfl, Nm.below_two hbel hb5⟩
        · have hge : (fs.size : Int) ≤ (k : Int) := by omega
          have hnil : (fs.data.toList.map pcC).drop k = [] := List.drop_eq_nil_of_le (by simp; show fs.size ≤ k; omega)
          rw [hnil, dtP] at hres
          by_cases he : pos = fin
          · rw [if_pos he] at hres
            have he' : ((pos : Int) != (fin : Int)) = false := by simp [he]
            subst hres
            go_wp2
            go_ret2
            exact ⟨rfl, hbel⟩
          · rw [if_neg he] at hres
            have he' : ((pos : Int) != (fin : Int)) = true := by rw [bne_iff_ne]; omega
            subst hres
            go_wp2
            go_ret2
            exact ⟨rfl, hbel⟩
    · have hpd : decide (pointed t) = false := decide_eq_false hpt
      simp only [hpd] at hmp
      have HD : Hid (dtV (dataS l t p fin) = if cutCode t ⟨(cutL l p (fin - p)).toArray⟩ = 0 then .tuple #[.string ⟨(cutL l p (fin - p)).toArray⟩, .int .i64 0] else .tuple #[.string ⟨#[]⟩, .int .i64 7]) := by
        rw [Hid, dataS, if_neg h0, if_neg hpt]
        split <;> rfl
      obtain ⟨b, off, rfl, hcv⟩ := by_str hby (show p + (fin - p) ≤ l.length by omega) (by omega)
      have hck := fun W => specCheckData_any (t : Int) ⟨(cutL l p (fin - p)).toArray⟩ W
      change ∀ W, _ → (convert _ _ _).run _ _ = .ok (.string ⟨(cutL l p (fin - p)).toArray⟩) W at hcv
      rw [HD.out]
      generalize cutCode t ⟨(cutL l p (fin - p)).toArray⟩ = cc at *
      generalize (⟨(cutL l p (fin - p)).toArray⟩ : ByteArray) = ds at *
      have hcv1 := hcv w (Below.refl _ _)
      have hcp : ¬ cap = p := by omega
      have hfc : (fin : Int) ≤ (cap : Int) := by omega
      have hpf : (p : Int) ≤ (fin : Int) := by omega
      clear HD hpd hcv
      by_cases hcc : cc = 0
      · subst hcc
        rw [if_pos rfl]
        go_enter Try.func56, Try.ntmps56
        go_wp2_with (first | (go_at_call 48; refine (hmp _).mono ?_; rintro e w1 ⟨rfl, hw⟩; obtain rfl := hw.symm; clear hw) | (go_at_call 72; refine (hck _).mono ?_; rintro e w2 ⟨rfl, hb2⟩))
        go_ret2
        exact ⟨rfl, hb2⟩
      · rw [if_neg hcc]
        have hne : (cc != 0) = true := by rw [bne_iff_ne]; exact hcc
        go_enter Try.func56, Try.ntmps56
        go_wp2_with (first | (go_at_call 48; refine (hmp _).mono ?_; rintro e w1 ⟨rfl, hw⟩; obtain rfl := hw.symm; clear hw) | (go_at_call 72; refine (hck _).mono ?_; rintro e w2 ⟨rfl, hb2⟩))
        go_ret2
        exact ⟨rfl, hb2⟩
end Go.Proofs.Ytocadkdfhfiijaa
