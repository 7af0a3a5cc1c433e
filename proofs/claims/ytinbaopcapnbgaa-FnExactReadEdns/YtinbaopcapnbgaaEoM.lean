import Derived.Test.YtinbaopcapnbgaaOpS
import Derived.Test.YtinbaopcapnbgaaSgM
/- What ReadEdns and EdnsRecord say: mathematics. -/
namespace Go.Proofs.Ytinbaopcapnbgaa
open Go.RowKit
set_option linter.unusedVariables false

/-- An option that may be told. -/
def optB (o : Int × ByteArray) : Bool := (decide (0 ≤ o.1) && decide (o.1 ≤ 65535)) && decide (o.2.size ≤ 65535)
/-- Its bytes. -/
def optL (o : Int × ByteArray) : List UInt8 := bigL o.1.toNat 2 ++ bigL o.2.size 2 ++ o.2.data.toList
def optsL (xs : List (Int × ByteArray)) : List UInt8 := xs.flatMap optL
def erB (size code flags : Int) (xs : List (Int × ByteArray)) : Bool := (decide (0 ≤ size) && decide (size ≤ 65535)) && ((decide (0 ≤ flags) && decide (flags ≤ 65535)) && ((decide (0 ≤ code) && decide (code ≤ 255)) && (xs.all optB && decide ((optsL xs).length ≤ 65535))))
/-- The record. -/
def erA (size code flags : Int) (xs : List (Int × ByteArray)) : Array Value := #[.string ⟨#[0]⟩, .int .i64 41, .int .i64 size, .int .i64 (code * 16777216 + flags), .string ⟨(optsL xs).toArray⟩]
def erZ : Array Value := #[.string ByteArray.empty, .int .i64 0, .int .i64 0, .int .i64 0, .string ByteArray.empty]

theorem optL_len (o : Int × ByteArray) : (optL o).length = 4 + o.2.size := by
  have : o.2.data.toList.length = o.2.size := by simp
  simp only [optL, List.length_append, big_len, this]
theorem optsL_len : ∀ xs : List (Int × ByteArray), (optsL xs).length = 4 * xs.length + osum xs
  | [] => rfl
  | x :: xs => by
    have ih := optsL_len xs
    have e : optsL (x :: xs) = optL x ++ optsL xs := by simp [optsL]
    rw [e, List.length_append, optL_len, ih, List.length_cons, osum]
    omega
theorem optsL_step {xs : List (Int × ByteArray)} {k : Nat} {x : Int × ByteArray} (h : xs[k]? = some x) : optsL (xs.take (k + 1)) = optsL (xs.take k) ++ optL x := by
  rw [List.take_add_one, h]
  simp [optsL]
theorem opt_all {xs : List (Int × ByteArray)} {k : Nat} {x : Int × ByteArray} (h : xs[k]? = some x) : (xs.take (k + 1)).all optB = ((xs.take k).all optB && optB x) := by
  rw [List.take_add_one, h]
  simp

/-- Options cut: so many that are read, the rest. -/
def optA : Nat → List (Int × ByteArray) → List UInt8 → Option (List (Int × ByteArray))
  | 0, _, _ => none
  | f + 1, acc, l => if l = [] then some acc else if l.length < 4 ∨ l.length < 4 + numL ((l.drop 2).take 2) then none else optA f (acc ++ [((numL (l.take 2) : Int), ⟨((l.drop 4).take (numL ((l.drop 2).take 2))).toArray⟩)]) (l.drop (4 + numL ((l.drop 2).take 2)))
def optR (l : List UInt8) : Option (List (Int × ByteArray)) := optA (l.length + 1) [] l
theorem optA_nil {f : Nat} {acc : List (Int × ByteArray)} : optA (f + 1) acc [] = some acc := by rw [optA, if_pos rfl]
theorem optA_bad {f : Nat} {acc : List (Int × ByteArray)} {l : List UInt8} (h : l ≠ []) (hb : l.length < 4 ∨ l.length < 4 + numL ((l.drop 2).take 2)) : optA (f + 1) acc l = none := by rw [optA, if_neg h, if_pos hb]
theorem optA_step {f : Nat} {acc : List (Int × ByteArray)} {l : List UInt8} (h : l ≠ []) (hb : ¬ (l.length < 4 ∨ l.length < 4 + numL ((l.drop 2).take 2))) : optA (f + 1) acc l = optA f (acc ++ [((numL (l.take 2) : Int), ⟨((l.drop 4).take (numL ((l.drop 2).take 2))).toArray⟩)]) (l.drop (4 + numL ((l.drop 2).take 2))) := by rw [optA, if_neg h, if_neg hb]
end Go.Proofs.Ytinbaopcapnbgaa
