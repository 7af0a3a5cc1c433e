import Derived.Test.YtoiajlgmnkoekaaJRcM
import Derived.Test.YtoiajlgmnkoekaaMsP
import Derived.Test.YtoiajlgmnkoekaaUnderM
/- The form of changes: mathematics. -/
namespace Go.Proofs.Ytoiajlgmnkoekaa
open Go.RowKit
set_option linter.unusedVariables false

/-- data that may be that of a type in a zone -/
def ownB (t : Int) (d : ByteArray) : Bool := !metaB t && (cutCode t d == 0)
/-- a record has the form of a change of its class -/
def chB (r : Rr) : Bool :=
  if r.cl = 1 then ownB r.ty r.da && decide (r.tt ≤ 2147483647)
  else if r.cl = 255 then decide (r.tt = 0) && decide (r.da.size = 0) && (decide (r.ty = 255) || !metaB r.ty)
  else if r.cl = 254 then decide (r.tt = 0) && ownB r.ty r.da
  else false
def chC (apex : ByteArray) (r : Rr) : Int := if isUnderS r.own apex = true then (if chB r = true then 0 else 1) else 10
def chS (apex : ByteArray) : List Rr → Int
  | [] => 0
  | r :: rs => if chC apex r = 0 then chS apex rs else chC apex r
def zeroB (apex : ByteArray) (r : Rr) : Bool := decide (chC apex r = 0)

theorem chS_zero {apex : ByteArray} : ∀ {xs : List Rr}, xs.all (zeroB apex) = true → chS apex xs = 0
  | [], _ => rfl
  | r :: rs, h => by
    simp only [List.all_cons, Bool.and_eq_true, zeroB, decide_eq_true_eq] at h
    rw [chS, if_pos h.1]
    exact chS_zero h.2
theorem chS_at {apex : ByteArray} : ∀ {xs : List Rr} {k : Nat} {r : Rr}, (xs.take k).all (zeroB apex) = true → xs[k]? = some r → chC apex r ≠ 0 → chS apex xs = chC apex r
  | [], k, r, _, h, _ => by simp at h
  | x :: xs, 0, r, _, h, hn => by
    simp at h; subst h
    rw [chS, if_neg hn]
  | x :: xs, k + 1, r, h, hx, hn => by
    simp only [List.take_succ_cons, List.all_cons, Bool.and_eq_true] at h
    have h0 : chC apex x = 0 := by simpa [zeroB] using h.1
    rw [chS, if_pos h0]
    exact chS_at h.2 (by simpa using hx) hn
/-- a list that is sound -/
def listB (xs : List Rr) : Bool := decide (xs.length ≤ 400) && xs.all rcOK
def ccB (apex : ByteArray) (xs : List Rr) : Bool := (Nm.split apex).isSome && listB xs
end Go.Proofs.Ytoiajlgmnkoekaa
