import Derived.Test.YtakonfkefoeenahJMath
import Derived.Test.YtakonfkefoeenahRows
import Derived.WalkSpells
import Derived.WalkLawsBesides
/- The number of some bytes: mathematics. -/
namespace Go.Proofs.Ytakonfkefoeenah
open Go.RowKit

/-- The number of some bytes, the high one first. -/
def numL (l : List UInt8) : Nat := l.foldl (fun n c => n * 256 + c.toNat) 0

theorem numL_snoc (l : List UInt8) (c : UInt8) : numL (l ++ [c]) = numL l * 256 + c.toNat := by simp [numL]

theorem fold_lt : ∀ (l : List UInt8) (a : Nat), l.foldl (fun n c => n * 256 + c.toNat) a < (a + 1) * 256 ^ l.length := by
  intro l
  induction l with
  | nil => intro a; simp
  | cons c l ih =>
    intro a
    rw [List.foldl_cons, List.length_cons, Nat.pow_succ]
    refine Nat.lt_of_lt_of_le (ih _) ?_
    have hc := c.toNat_lt
    have h1 : a * 256 + c.toNat + 1 ≤ (a + 1) * 256 := by omega
    calc (a * 256 + c.toNat + 1) * 256 ^ l.length ≤ ((a + 1) * 256) * 256 ^ l.length := Nat.mul_le_mul_right _ h1
      _ = (a + 1) * (256 ^ l.length * 256) := by rw [Nat.mul_assoc, Nat.mul_comm 256]

theorem numL_lt (l : List UInt8) : numL l < 256 ^ l.length := by
  have := fold_lt l 0
  rw [Nat.zero_add, Nat.one_mul] at this
  exact this

theorem numL_small {l : List UInt8} (h : l.length ≤ 6) : numL l < 281474976710656 := by
  have h1 := numL_lt l
  have h2 : 256 ^ l.length ≤ 256 ^ 6 := Nat.pow_le_pow_right (by decide) h
  have h3 : (256 : Nat) ^ 6 = 281474976710656 := by decide
  omega

end Go.Proofs.Ytakonfkefoeenah
/- Folding, and the order of texts, as plain mathematics. -/
namespace Go.Proofs.Ytakonfkefoeenah.Nm
open Go.RowKit

def low (c : UInt8) : UInt8 := if 65 ≤ c.toNat ∧ c.toNat ≤ 90 then UInt8.ofNat (c.toNat + 32) else c
def smallL (l : List UInt8) : List UInt8 := l.map low
def small (s : ByteArray) : ByteArray := ⟨(smallL s.data.toList).toArray⟩

theorem low_up {c : UInt8} (h : 65 ≤ c.toNat ∧ c.toNat ≤ 90) : ((low c).toNat : Int) = (c.toNat : Int) + 32 := by
  rw [low, if_pos h]; simp; omega
theorem low_id {c : UInt8} (h : ¬ (65 ≤ c.toNat ∧ c.toNat ≤ 90)) : low c = c := by rw [low, if_neg h]

theorem small_data (s : ByteArray) : (small s).data.toList = smallL s.data.toList := by simp [small]
theorem small_size (s : ByteArray) : (small s).size = s.size := by
  have : (small s).data.toList.length = s.data.toList.length := by rw [small_data]; simp [smallL]
  simpa using this

theorem ba_ext {a b : ByteArray} (h : a.data.toList = b.data.toList) : a = b := by
  apply ByteArray.ext
  exact Array.toList_inj.1 h

theorem smallL_step {l : List UInt8} {k : Nat} {c : UInt8} (h : l[k]? = some c) : smallL (l.take (k + 1)) = smallL (l.take k) ++ [low c] := by
  rw [take_step h]; simp [smallL]

theorem get_data {x : ByteArray} {j : Nat} (h : j < x.size) : x.data.toList[j]? = some x[j] := by
  rw [List.getElem?_eq_getElem (by simpa using h)]; rfl

/-! What 'split' gives back, put together again. -/

theorem cut_data (r : ByteArray) (h : 0 < r.size) (n : Nat) :
    r.data.toList = r[0] :: ((r.extract 1 (n + 1)).data.toList ++ (r.extract (n + 1) r.size).data.toList) := by
  have e0 : r.data.toList = r[0] :: r.data.toList.drop 1 := by
    have hl : 0 < r.data.toList.length := by simpa using h
    have := List.drop_eq_getElem_cons (i := 0) hl
    rw [List.drop_zero] at this
    exact this
  rw [e0]
  congr 1
  have e1 : (r.extract 1 (n + 1)).data.toList = (r.data.toList.drop 1).take n := by simp
  have e2 : (r.extract (n + 1) r.size).data.toList = (r.data.toList.drop 1).drop n := by
    simp only [ByteArray.data_extract, Array.toList_extract, List.drop_drop]
    rw [List.extract_eq_take_drop, List.take_of_length_le (by simp)]
    congr 1
    omega
  rw [e1, e2, List.take_append_drop]

theorem splitF_join : ∀ (f : Nat) (r : ByteArray) (ls : List ByteArray), splitF f r = some ls → joinL ls = r.data.toList ∧ ∀ x ∈ ls, 1 ≤ x.size ∧ x.size ≤ 63 := by
  intro f
  induction f with
  | zero => intro r ls h; simp [splitF] at h
  | succ f ih =>
    intro r ls h
    by_cases hp : 0 < r.size
    · by_cases h0 : r[0].toNat = 0
      · by_cases h1 : r.size = 1
        · rw [splitF_end f r hp h0 h1] at h
          simp at h
          subst h
          refine ⟨?_, by simp⟩
          have e := cut_data r hp 0
          have z : r[0] = 0 := UInt8.toNat_inj.1 (by simpa using h0)
          rw [e, z]
          have e1 : (r.extract 1 (0 + 1)).data.toList = [] := by simp
          have e2 : (r.extract (0 + 1) r.size).data.toList = [] := by simp [h1]
          rw [e1, e2]; rfl
        · rw [splitF_zero f r hp h0 h1] at h; simp at h
      · by_cases h1 : 63 < r[0].toNat ∨ r.size < r[0].toNat + 1
        · rw [splitF_bad f r hp h0 h1] at h; simp at h
        · rw [splitF_step f r hp h0 (by omega) (by omega)] at h
          cases e : splitF f (r.extract (r[0].toNat + 1) r.size) with
          | none => rw [e] at h; simp at h
          | some t =>
            rw [e] at h
            simp at h
            obtain ⟨i1, i2⟩ := ih _ _ e
            have hsz : (r.extract 1 (r[0].toNat + 1)).size = r[0].toNat := by simp; omega
            rw [← h]
            constructor
            · rw [cut_data r hp r[0].toNat, ← i1]
              simp only [joinL, preL, hsz]
              simp
            · intro x hx
              rcases List.mem_cons.1 hx with rfl | hx
              · rw [hsz]; omega
              · exact i2 x hx
    · rw [splitF_empty _ r (by omega)] at h; simp at h

theorem split_join {s : ByteArray} {ls : List ByteArray} (h : split s = some ls) : joinL ls = s.data.toList ∧ ∀ x ∈ ls, 1 ≤ x.size ∧ x.size ≤ 63 := by
  by_cases hl : s.size ≤ 255
  · rw [split_short s hl] at h
    exact splitF_join _ _ _ h
  · rw [split_long s (by omega)] at h; simp at h

theorem low_len {n : Nat} (h : n ≤ 63) : low (UInt8.ofNat n) = UInt8.ofNat n := by
  apply low_id
  simp; omega

theorem preL_small (ls : List ByteArray) (h : ∀ x ∈ ls, x.size ≤ 63) : preL (ls.map small) = smallL (preL ls) := by
  induction ls with
  | nil => rfl
  | cons x r ih =>
    have hx := h x (List.mem_cons_self)
    have := ih (fun y hy => h y (List.mem_cons_of_mem _ hy))
    simp only [List.map_cons, preL, small_size, small_data, this]
    simp [smallL, low_len hx]

theorem joinL_small {s : ByteArray} {ls : List ByteArray} (h : split s = some ls) : (⟨(joinL (ls.map small)).toArray⟩ : ByteArray) = small s := by
  obtain ⟨h1, h2⟩ := split_join h
  apply ba_ext
  rw [small_data, ← h1]
  simp only [joinL]
  rw [preL_small ls (fun x hx => (h2 x hx).2)]
  simp [smallL, low]

theorem wsum_small (ls : List ByteArray) : wsum (ls.map small) = wsum ls := by
  induction ls with
  | nil => rfl
  | cons x r ih => simp only [List.map_cons, wsum, small_size, ih]

def foldS (s : ByteArray) : ByteArray := if (split s).isSome then small s else ByteArray.empty
theorem foldS_none {s : ByteArray} (h : split s = none) : foldS s = ByteArray.empty := by simp [foldS, h]
theorem foldS_some {s : ByteArray} {ls : List ByteArray} (h : split s = some ls) : foldS s = small s := by simp [foldS, h]

end Go.Proofs.Ytakonfkefoeenah.Nm
/- impl.readBig by its contract. -/
namespace Go.Proofs.Ytakonfkefoeenah
open Go.RowKit

theorem wrap_pos (n : Nat) (h : n < 9223372036854775808) : IntKind.i64.wrap (n : Int) = (n : Int) := by
  have e : (n : Int) % 2 ^ 64 = n := Int.emod_eq_of_lt (by omega) (by omega)
  simp only [IntKind.wrap, IntKind.bits, IntKind.signed, e]
  rw [if_neg]
  simp
  omega

theorem i64_or_nat (a b : Nat) (ha : a < 9223372036854775808) (hb : b < 9223372036854775808) : bits .or .i64 (a : Int) (b : Int) = ((a ||| b : Nat) : Int) := by
  have hx : a ||| b < 2 ^ 63 := Nat.or_lt_two_pow (by omega) (by omega)
  show IntKind.i64.wrap ((BitVec.ofInt 64 (a : Int) ||| BitVec.ofInt 64 (b : Int)).toNat : Int) = _
  rw [BitVec.toNat_or, ofInt_u64 a (by omega), ofInt_u64 b (by omega)]
  exact wrap_pos _ (by omega)

theorem or_join (i a b : Nat) (h : b < 2 ^ i) (ha : 2 ^ i * a + b < 9223372036854775808) : bits .or .i64 ((2 ^ i * a : Nat) : Int) (b : Int) = ((2 ^ i * a + b : Nat) : Int) := by
  rw [i64_or_nat _ _ (by omega) (by omega), ← Nat.two_pow_add_eq_or_of_lt h]

theorem or4 (a b c d : Nat) (ha : a < 256) (hb : b < 256) (hc : c < 256) (hd : d < 256) :
    bits .or .i64 (bits .or .i64 (bits .or .i64 ((a : Int) * 16777216) ((b : Int) * 65536)) ((c : Int) * 256)) (d : Int) = ((((a * 256 + b) * 256 + c) * 256 + d : Nat) : Int) := by
  have e1 : (a : Int) * 16777216 = ((2 ^ 24 * a : Nat) : Int) := by omega
  have e2 : (b : Int) * 65536 = ((b * 65536 : Nat) : Int) := by omega
  have e3 : (c : Int) * 256 = ((c * 256 : Nat) : Int) := by omega
  rw [e1, e2, e3, or_join 24 a _ (by omega) (by omega)]
  have e4 : 2 ^ 24 * a + b * 65536 = 2 ^ 16 * (a * 256 + b) := by omega
  rw [e4, or_join 16 _ _ (by omega) (by omega)]
  have e5 : 2 ^ 16 * (a * 256 + b) + c * 256 = 2 ^ 8 * ((a * 256 + b) * 256 + c) := by omega
  rw [e5, or_join 8 _ _ (by omega) (by omega)]
  congr 1
  omega

def num4 (a b c d : UInt8) : Nat := ((a.toNat * 256 + b.toNat) * 256 + c.toNat) * 256 + d.toNat

theorem big_step (m : Nat) (c : UInt8) (h : m < 281474976710656) : bits .or .i64 ((m : Int) * 256) (c.toNat : Int) = ((m * 256 + c.toNat : Nat) : Int) := by
  have hc := c.toNat_lt
  have e : (m : Int) * 256 = ((2 ^ 8 * m : Nat) : Int) := by omega
  rw [e, or_join 8 m _ (by omega) (by omega)]
  congr 1
  omega

set_option maxRecDepth 100000 in
set_option maxHeartbeats 400000 in
theorem readBig_any (s : ByteArray) (w : World) (hs : s.size ≤ 6) :
    Calls Try.prog 43 #[.string s] w fun e w' => e = .returned (.int .i64 (numL s.data.toList)) ∧ w' = w := by
  go_enter Try.func43, Try.ntmps43
  go_wp2
  go_loop [3, 7] (fun u v => ∃ k : Nat, k ≤ s.size ∧ v = .int .i64 k ∧ u = .int .i64 (numL (s.data.toList.take k))) (fun _ v => s.size - (intOf v).toNat)
  case atStart => exact ⟨0, Nat.zero_le _, rfl, rfl⟩
  case round =>
    obtain ⟨k, hk, rfl, rfl⟩ := hrel
    by_cases hlt : k < s.size
    · have hd := Nm.get_data hlt
      have e1 : s.data.toList.take (k + 1) = s.data.toList.take k ++ [s[k]] := Nm.take_step hd
      have hb := numL_small (l := s.data.toList.take k) (by simp; omega)
      have e2 := numL_snoc (s.data.toList.take k) s[k]
      rw [← e1] at e2
      have hc : (s[k].toNat : Int) < 256 := by have := s[k].toNat_lt; omega
      have hlt' : (k : Int) < (s.size : Int) := by omega
      have HB := Nm.hide (big_step (numL (s.data.toList.take k)) s[k] hb)
      generalize numL (s.data.toList.take k) = m at *
      clear e1 hd
      go_wp2
      go_round
      case rel => exact ⟨k + 1, by omega, by go_num, by rw [e2, ← HB.out]⟩
      case measure => simp [intOf]; omega
    · have hke : k = s.size := by omega
      subst hke
      have et : s.data.toList.take s.size = s.data.toList := List.take_of_length_le (by simp)
      rw [et]
      go_wp2
      go_ret
      exact ⟨rfl, rfl⟩
end Go.Proofs.Ytakonfkefoeenah
/- The bits of a head: mathematics. -/
namespace Go.Proofs.Ytakonfkefoeenah
open Go.RowKit

theorem i64_and_nat (a b : Nat) (ha : a < 9223372036854775808) (hb : b < 9223372036854775808) : bits .and .i64 (a : Int) (b : Int) = ((a &&& b : Nat) : Int) := by
  have hx : a &&& b ≤ a := Nat.and_le_left
  show IntKind.i64.wrap ((BitVec.ofInt 64 (a : Int) &&& BitVec.ofInt 64 (b : Int)).toNat : Int) = _
  rw [BitVec.toNat_and, ofInt_u64 a (by omega), ofInt_u64 b (by omega)]
  exact wrap_pos _ (by omega)

theorem and_bit (f i : Nat) : (f &&& 2 ^ i ≠ 0) ↔ f.testBit i = true := by
  constructor
  · intro h
    refine Classical.byContradiction fun hn => h ?_
    apply Nat.eq_of_testBit_eq
    intro j
    rw [Nat.testBit_and, Nat.testBit_two_pow, Nat.zero_testBit]
    by_cases e : i = j
    · subst e; simp_all
    · simp [e]
  · intro h h0
    have := congrArg (fun n => n.testBit i) h0
    simp [Nat.testBit_and, h, Nat.testBit_two_pow_self] at this

theorem flag_and (f i : Nat) (hf : f < 65536) (hi : i < 16) (c : Int) (hc : c = ((2 ^ i : Nat) : Int)) : (bits .and .i64 (f : Int) c != 0) = f.testBit i := by
  have h2 : 2 ^ i < 9223372036854775808 := Nat.lt_of_le_of_lt (Nat.pow_le_pow_right (by decide) (show i ≤ 16 by omega)) (by decide)
  rw [hc, i64_and_nat f (2 ^ i) (by omega) h2]
  rw [Bool.eq_iff_iff, ← and_bit, bne_iff_ne]
  omega

theorem flag_shr (f i : Nat) (hf : f < 65536) : (bits .and .i64 ((f / 2 ^ i : Nat) : Int) 1 == 1) = f.testBit i := by
  have h1 : f / 2 ^ i ≤ f := Nat.div_le_self _ _
  have := i64_and_nat (f / 2 ^ i) 1 (by omega) (by decide)
  rw [show ((1 : Nat) : Int) = 1 from rfl] at this
  rw [this, Nat.and_one_is_mod, Nat.testBit_eq_decide_div_mod_eq, Bool.eq_iff_iff, decide_eq_true_iff, beq_iff_eq]
  omega

theorem and_15 (n : Nat) (h : n < 65536) : bits .and .i64 (n : Int) 15 = ((n % 16 : Nat) : Int) := by
  have := i64_and_nat n 15 (by omega) (by decide)
  rw [show ((15 : Nat) : Int) = 15 from rfl] at this
  rw [this, show (15 : Nat) = 2 ^ 4 - 1 from rfl, Nat.and_two_pow_sub_one_eq_mod]

/-- The number of two bytes at a place. -/
def n16 (l : List UInt8) (i : Nat) : Nat := numL ((l.drop i).take 2)

theorem n16_lt (l : List UInt8) (i : Nat) : n16 l i < 65536 := by
  have h := numL_lt ((l.drop i).take 2)
  have h2 : ((l.drop i).take 2).length ≤ 2 := by simp; omega
  have h3 : 256 ^ ((l.drop i).take 2).length ≤ 256 ^ 2 := Nat.pow_le_pow_right (by decide) h2
  unfold n16
  omega

/-- A head's fields, out of its two numbers. -/
def hdA (d f : Nat) : Array Value := #[.int .i64 d, .bool (f.testBit 15), .int .i64 ((f / 2048 % 16 : Nat) : Int), .bool (f.testBit 10), .bool (f.testBit 9), .bool (f.testBit 8), .bool (f.testBit 7), .bool (f.testBit 6), .bool (f.testBit 5), .bool (f.testBit 4), .int .i64 ((f % 16 : Nat) : Int)]

/-- The head of nothing. -/
def hd0 : Array Value := #[.int .i64 0, .bool false, .int .i64 0, .bool false, .bool false, .bool false, .bool false, .bool false, .bool false, .bool false, .int .i64 0]

/-- The four counts. -/
def ctA (l : List UInt8) : Array Value := #[.int .i64 (n16 l 4), .int .i64 (n16 l 6), .int .i64 (n16 l 8), .int .i64 (n16 l 10)]
def ct0 : Array Value := #[.int .i64 0, .int .i64 0, .int .i64 0, .int .i64 0]
end Go.Proofs.Ytakonfkefoeenah
