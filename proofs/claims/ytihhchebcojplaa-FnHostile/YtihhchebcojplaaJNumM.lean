import Derived.Test.YtihhchebcojplaaJMath
import Derived.Test.YtihhchebcojplaaJWtG
/- The number of some bytes: mathematics. -/
namespace Go.Proofs.Ytihhchebcojplaa
open Go.RowKit

/-- The number of some bytes, the high one first. -/
def numL (l : List UInt8) : Nat := l.foldl (fun n c => n * 256 + c.toNat) 0

theorem numL_snoc (l : List UInt8) (c : UInt8) : numL (l ++ [c]) = numL l * 256 + c.toNat := by simp [numL]

theorem fold_lt : ∀ (l : List UInt8) (a : Nat), l.foldl (fun n c => n * 256 + c.toNat) a < (a + 1) * 256 ^ l.length := by
  intro l
  induction l with
  | nil => intro a; simp
  | cons c l ih =>
    intro a
    rw [List.foldl_cons, List.length_cons, Nat.pow_succ]
    refine Nat.lt_of_lt_of_le (ih _) ?_
    have hc := c.toNat_lt
    have h1 : a * 256 + c.toNat + 1 ≤ (a + 1) * 256 := by omega
    calc (a * 256 + c.toNat + 1) * 256 ^ l.length ≤ ((a + 1) * 256) * 256 ^ l.length := Nat.mul_le_mul_right _ h1
      _ = (a + 1) * (256 ^ l.length * 256) := by rw [Nat.mul_assoc, Nat.mul_comm 256]

theorem numL_lt (l : List UInt8) : numL l < 256 ^ l.length := by
  have := fold_lt l 0
  rw [Nat.zero_add, Nat.one_mul] at this
  exact this

theorem numL_small {l : List UInt8} (h : l.length ≤ 6) : numL l < 281474976710656 := by
  have h1 := numL_lt l
  have h2 : 256 ^ l.length ≤ 256 ^ 6 := Nat.pow_le_pow_right (by decide) h
  have h3 : (256 : Nat) ^ 6 = 281474976710656 := by decide
  omega

end Go.Proofs.Ytihhchebcojplaa
/- The bits of a head: mathematics. -/
namespace Go.Proofs.Ytihhchebcojplaa
open Go.RowKit

theorem i64_and_nat (a b : Nat) (ha : a < 9223372036854775808) (hb : b < 9223372036854775808) : bits .and .i64 (a : Int) (b : Int) = ((a &&& b : Nat) : Int) := by
  have hx : a &&& b ≤ a := Nat.and_le_left
  show IntKind.i64.wrap ((BitVec.ofInt 64 (a : Int) &&& BitVec.ofInt 64 (b : Int)).toNat : Int) = _
  rw [BitVec.toNat_and, ofInt_u64 a (by omega), ofInt_u64 b (by omega)]
  exact wrap_pos _ (by omega)

theorem and_bit (f i : Nat) : (f &&& 2 ^ i ≠ 0) ↔ f.testBit i = true := by
  constructor
  · intro h
    refine Classical.byContradiction fun hn => h ?_
    apply Nat.eq_of_testBit_eq
    intro j
    rw [Nat.testBit_and, Nat.testBit_two_pow, Nat.zero_testBit]
    by_cases e : i = j
    · subst e; simp_all
    · simp [e]
  · intro h h0
    have := congrArg (fun n => n.testBit i) h0
    simp [Nat.testBit_and, h, Nat.testBit_two_pow_self] at this

theorem flag_and (f i : Nat) (hf : f < 65536) (hi : i < 16) (c : Int) (hc : c = ((2 ^ i : Nat) : Int)) : (bits .and .i64 (f : Int) c != 0) = f.testBit i := by
  have h2 : 2 ^ i < 9223372036854775808 := Nat.lt_of_le_of_lt (Nat.pow_le_pow_right (by decide) (show i ≤ 16 by omega)) (by decide)
  rw [hc, i64_and_nat f (2 ^ i) (by omega) h2]
  rw [Bool.eq_iff_iff, ← and_bit, bne_iff_ne]
  omega

theorem flag_shr (f i : Nat) (hf : f < 65536) : (bits .and .i64 ((f / 2 ^ i : Nat) : Int) 1 == 1) = f.testBit i := by
  have h1 : f / 2 ^ i ≤ f := Nat.div_le_self _ _
  have := i64_and_nat (f / 2 ^ i) 1 (by omega) (by decide)
  rw [show ((1 : Nat) : Int) = 1 from rfl] at this
  rw [this, Nat.and_one_is_mod, Nat.testBit_eq_decide_div_mod_eq, Bool.eq_iff_iff, decide_eq_true_iff, beq_iff_eq]
  omega

theorem and_15 (n : Nat) (h : n < 65536) : bits .and .i64 (n : Int) 15 = ((n % 16 : Nat) : Int) := by
  have := i64_and_nat n 15 (by omega) (by decide)
  rw [show ((15 : Nat) : Int) = 15 from rfl] at this
  rw [this, show (15 : Nat) = 2 ^ 4 - 1 from rfl, Nat.and_two_pow_sub_one_eq_mod]

/-- The number of two bytes at a place. -/
def n16 (l : List UInt8) (i : Nat) : Nat := numL ((l.drop i).take 2)

theorem n16_lt (l : List UInt8) (i : Nat) : n16 l i < 65536 := by
  have h := numL_lt ((l.drop i).take 2)
  have h2 : ((l.drop i).take 2).length ≤ 2 := by simp; omega
  have h3 : 256 ^ ((l.drop i).take 2).length ≤ 256 ^ 2 := Nat.pow_le_pow_right (by decide) h2
  unfold n16
  omega

/-- A head's fields, out of its two numbers. -/
def hdA (d f : Nat) : Array Value := #[.int .i64 d, .bool (f.testBit 15), .int .i64 ((f / 2048 % 16 : Nat) : Int), .bool (f.testBit 10), .bool (f.testBit 9), .bool (f.testBit 8), .bool (f.testBit 7), .bool (f.testBit 6), .bool (f.testBit 5), .bool (f.testBit 4), .int .i64 ((f % 16 : Nat) : Int)]

/-- The head of nothing. -/
def hd0 : Array Value := #[.int .i64 0, .bool false, .int .i64 0, .bool false, .bool false, .bool false, .bool false, .bool false, .bool false, .bool false, .int .i64 0]

/-- The four counts. -/
def ctA (l : List UInt8) : Array Value := #[.int .i64 (n16 l 4), .int .i64 (n16 l 6), .int .i64 (n16 l 8), .int .i64 (n16 l 10)]
def ct0 : Array Value := #[.int .i64 0, .int .i64 0, .int .i64 0, .int .i64 0]
end Go.Proofs.Ytihhchebcojplaa
